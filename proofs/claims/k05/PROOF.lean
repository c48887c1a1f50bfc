import PyProof.Rows.All
import Wide.All
import OpenK.AllK
import Wide.FinOn
import HandS.ForMost
import HandS.IsInst
import HandS.Walk
import HandS.Style
import HandS.Evl
import KE.SortData
import PySem.Challenge.RW_pagelodge_k05_stretches_of_spans
set_option Elab.async false
set_option linter.all false
set_option maxRecDepth 100000
set_option maxHeartbeats 4000000
namespace My
open PySem PySem.Spec PyProof.Rows L2 TL
/-- xs == [], xs != []: items of any kind -/
def rEqNil (K : PySem.W.Frag) : R2 := fun x y H Q => ∃ p q xs, x = .ref p ∧ y = .ref q ∧ SqL K H p xs ∧ SqL K H q [] ∧ Q (.bl xs.isEmpty) H
section
variable {X : Cx}
theorem op_eqNil (hu : X.A.units + 64 < cLine) : OpR X (compareOp .Eq) (rEqNil X.K) := by
  intro pins s σ H x y v u Q I rx ry h
  obtain ⟨p, q, xs, rfl, rfl, h1, h2, k⟩ := h
  obtain ⟨its, rv, hl, _⟩ := I.list h1
  obtain ⟨its2, rv2, hl2, _⟩ := I.list h2
  cases (show v = Value.ref p from rx)
  cases (show u = Value.ref q from ry)
  cases rv2
  cases rv with
  | nil => exact SeqAt.eq_listAt (e := fun _ => true) hl.isList hl2.isList rfl (by omega) (fun j h1 _ => absurd h1 (by simp)) ⟨.bl true, H, I, rfl, k⟩
  | cons a b => exact SeqAt.eq_list_lengthsAt hl.isList hl2.isList (by simp) (by omega) ⟨.bl false, H, I, rfl, k⟩
end
/-! ### heaps that change at the well alone -/
def W3 (a b c : Int) : HO := .lst [.int a, .int b, .int c]
def IsW (H : Hp) (W : Addr) : Prop := ∃ a b c, H W = some (W3 a b c)
structure Wx (W : Addr) (H H' : Hp) : Prop where
  keep : ∀ b o, b ≠ W → H b = some o → H' b = some o
  well : IsW H' W
theorem Wx.refl {W : Addr} {H : Hp} (h : IsW H W) : Wx W H H := ⟨fun _ _ _ e => e, h⟩
theorem Wx.trans {W : Addr} {H H1 H2 : Hp} (a : Wx W H H1) (b : Wx W H1 H2) : Wx W H H2 := ⟨fun c o n e => b.keep c o n (a.keep c o n e), b.well⟩
theorem Wx.free {W : Addr} {H H' : Hp} (e : Wx W H H') {p : Addr} (h : H' p = none) : H p = none := by
  cases q : H p with
  | none => rfl
  | some o =>
    by_cases hp : p = W
    · obtain ⟨a, b, c, hw⟩ := e.well
      rw [hp, hw] at h
      cases h
    · rw [e.keep p o hp q] at h
      cases h
theorem Wx.new {W : Addr} {H H' : Hp} (e : Wx W H H') {p : Addr} {o : HO} (h : H' p = none) : Wx W H (upd H' p o) := by
  obtain ⟨k, a, b, c, hw⟩ := e
  refine ⟨fun d u n q => ?_, a, b, c, ?_⟩
  · rw [upd_ne (ne_of_none (k d u n q) h)]
    exact k d u n q
  · rw [upd_ne (ne_of_none hw h)]
    exact hw
theorem Wx.set {W : Addr} {H H' : Hp} (e : Wx W H H') (a b c : Int) : Wx W H (upd H' W (W3 a b c)) := by
  refine ⟨fun d u n q => ?_, a, b, c, upd_same⟩
  rw [upd_ne n]
  exact e.keep d u n q
theorem IsW.ne {H : Hp} {W p : Addr} (h : IsW H W) (hp : H p = none) : W ≠ p := by
  obtain ⟨a, b, c, hw⟩ := h
  exact ne_of_none hw hp
theorem Wx.same {W : Addr} {H H1 H2 : Hp} (a : Wx W H H1) (b : Same H1 H2) : Wx W H H2 := by
  obtain ⟨k, x, y, z, hw⟩ := a
  exact ⟨fun c o n e => b c o (k c o n e), x, y, z, b _ _ hw⟩
/-- a list (other than the well) that is made here may change -/
theorem Wx.mut {W : Addr} {H H' : Hp} (e : Wx W H H') {p : Addr} {o : HO} (h : H p = none) (n : W ≠ p) : Wx W H (upd H' p o) := by
  obtain ⟨k, a, b, c, hw⟩ := e
  refine ⟨fun d u m q => ?_, a, b, c, ?_⟩
  · rw [upd_ne (ne_of_none q h)]
    exact k d u m q
  · rw [upd_ne n]
    exact hw
def spWell : Sp := fun vs H Q _ => ∃ n : Int, vs = [.int n] ∧ ∀ p a b c, H p = none → Q (.ref p) (upd H p (W3 a b c))
def spDraw : Sp := fun vs H Q _ => ∃ (W : Addr) (m : Int), vs = [.ref W, .int m] ∧ 0 < m ∧ m < 1073741824 ∧ IsW H W ∧ ∀ r H', 0 ≤ r → r < m → Wx W H H' → Q (.int r) H'
theorem mod_lt {n m : Int} (h : 0 < m) : 0 ≤ n % m ∧ n % m < m := ⟨Int.emod_nonneg n (by omega), Int.emod_lt_of_pos n h⟩
theorem cmul_of {i j : Int} (h : 0 ≤ i ∧ i < 2147483647) : CMul i j := .inl (by omega)
/-! ### texts and lists -/
theorem atI_in {α : Type} {xs : List α} {r : Int} (h0 : 0 ≤ r) (h1 : r < xs.length) : ∃ c, c ∈ xs ∧ atI xs r = some c := by
  obtain ⟨n, rfl⟩ : ∃ n : Nat, r = n := ⟨r.toNat, by omega⟩
  have hn : n < xs.length := by omega
  exact ⟨xs[n], List.getElem_mem hn, atI_nat (List.getElem?_eq_getElem hn)⟩
theorem len_tl (z : Str) : z.cps.toList.length = z.length := Array.length_toList
theorem joinL_one : ∀ t : List Nat, joinL [] (t.map fun c => [c]) = t
  | [] => rfl
  | [c] => rfl
  | c :: d :: r => by
    show [c] ++ ([] ++ joinL [] ((d :: r).map fun c => [c])) = c :: d :: r
    rw [joinL_one (d :: r)]
    rfl
theorem join_signs (y : Str) (hy : y.cps.toList = []) (t : List Nat) : Txt.join y (t.map fun c => (⟨#[c]⟩ : Str)) = ⟨t.toArray⟩ := by
  have e : tl (Txt.join y (t.map fun c => (⟨#[c]⟩ : Str))) = t := by
    rw [join_eq, tl_join, List.map_map]
    show joinL (y.cps.toList) (t.map fun c => [c]) = t
    rw [hy, joinL_one]
  rw [← mk_tl (Txt.join y (t.map fun c => (⟨#[c]⟩ : Str))), e]
theorem joinL_len (S : List Nat) : ∀ ps : List (List Nat), (joinL S ps).length ≤ (ps.map List.length).sum + ps.length * S.length
  | [] => Nat.zero_le _
  | [p] => by
    show p.length ≤ p.length + 0 + 1 * S.length
    omega
  | p :: q :: r => by
    have ih := joinL_len S (q :: r)
    show (p ++ (S ++ joinL S (q :: r))).length ≤ p.length + ((q :: r).map List.length).sum + ((q :: r).length + 1) * S.length
    rw [List.length_append, List.length_append, Nat.add_mul]
    omega
theorem join_len (y : Str) (ps : List Str) : (Txt.join y ps).length ≤ (ps.map (·.length)).sum + ps.length * y.length := by
  have h := joinL_len (tl y) (ps.map tl)
  rw [← tl_join, ← join_eq, List.map_map, List.length_map] at h
  have e : (ps.map (List.length ∘ tl)) = ps.map (·.length) := List.map_congr_left fun z _ => len_tl z
  rw [e] at h
  have e2 : (tl (Txt.join y ps)).length = (Txt.join y ps).length := len_tl _
  have e3 : (tl y).length = y.length := len_tl _
  rw [e2, e3] at h
  exact h
theorem sum_ones (t : List Nat) : ((t.map fun c => (⟨#[c]⟩ : Str)).map (·.length)).sum = t.length := by
  induction t with
  | nil => rfl
  | cons c r ih =>
    show 1 + ((r.map fun c => (⟨#[c]⟩ : Str)).map (·.length)).sum = r.length + 1
    rw [ih]
    omega
theorem sum_le {b : Nat} : ∀ ps : List Str, (∀ z ∈ ps, z.length ≤ b) → (ps.map (·.length)).sum ≤ ps.length * b
  | [], _ => Nat.zero_le _
  | z :: r, h => by
    have ih := sum_le r fun y hy => h y (List.mem_cons_of_mem _ hy)
    have hz := h z (List.mem_cons_self ..)
    show z.length + (r.map (·.length)).sum ≤ (r.length + 1) * b
    rw [Nat.add_mul]
    omega
theorem len_app (a b : Str) : (a ++ b).length = a.length + b.length := Array.size_append
theorem cutS_len (z : Str) (lo hi : Option Int) : (cutS z lo hi).length ≤ z.length := by
  show ((z.cps.toList.drop _).take _).toArray.size ≤ _
  rw [List.size_toArray, List.length_take, List.length_drop, len_tl]
  omega
theorem szl {n : Nat} (h : n ≤ 100000) : n ≤ sizeLine := Nat.le_trans h (by decide)
theorem szlt {n : Nat} (h : n < 100000) : n < sizeLine := Nat.lt_of_lt_of_le h (by decide)
def spSigns : Sp := fun vs H Q _ => ∃ (W : Addr) (z : Str) (m : Int), vs = [.ref W, .str z, .int m] ∧ 0 < z.length ∧ z.length ≤ 1000 ∧ 0 ≤ m ∧ m ≤ 1000 ∧ IsW H W ∧
  ∀ (t : List Nat) H', t.length = m.toNat → (∀ c ∈ t, c ∈ z.cps.toList) → Wx W H H' → Q (.str ⟨t.toArray⟩) H'
theorem ints_at {ns : List Int} {r : Int} (h0 : 0 ≤ r) (h1 : r < ns.length) : ∃ n, n ∈ ns ∧ atI (ns.map V.int) r = some (.int n) := by
  obtain ⟨v, hv, ev⟩ := atI_in (xs := ns.map V.int) h0 (by rw [List.length_map]; exact h1)
  obtain ⟨n, hn, rfl⟩ := List.mem_map.mp hv
  exact ⟨n, hn, ev⟩
theorem strs_at {ns : List Str} {r : Int} (h0 : 0 ≤ r) (h1 : r < ns.length) : ∃ n, n ∈ ns ∧ atI (ns.map V.str) r = some (.str n) := by
  obtain ⟨v, hv, ev⟩ := atI_in (xs := ns.map V.str) h0 (by rw [List.length_map]; exact h1)
  obtain ⟨n, hn, rfl⟩ := List.mem_map.mp hv
  exact ⟨n, hn, ev⟩
theorem mk_len (t : List Nat) : (⟨t.toArray⟩ : Str).length = t.length := List.size_toArray
def spText (b : Nat) : Sp := fun vs H Q _ => ∃ (W : Addr), vs = [.ref W] ∧ IsW H W ∧ ∀ t H', t.length ≤ b → Wx W H H' → Q (.str t) H'
theorem same_upd {H : Hp} {p : Addr} {o : HO} (h : H p = none) : Same H (upd H p o) := fun b x e => by
  rw [upd_ne (ne_of_none e h)]
  exact e
theorem same_mut {H H' : Hp} {p : Addr} {o : HO} (e : Same H H') (h : H p = none) : Same H (upd H' p o) := fun a u ha => by
  rw [upd_ne (ne_of_none ha h)]
  exact e a u ha
theorem take_map {α β : Type} {xs : List α} {i : Nat} {c : α} (f : α → β) (h : xs[i]? = some c) : (xs.take (i + 1)).map f = (xs.take i).map f ++ [f c] := by
  rw [List.take_add_one, h, List.map_append]
  rfl
theorem at_l {z : Str} {i c : Nat} (h : z.cps[i]? = some c) : z.cps.toList[i]? = some c := by
  rw [Array.getElem?_toList]
  exact h
theorem filter_take {α β : Type} {xs : List α} {i : Nat} {c : α} (p : α → Bool) (f : α → β) (h : xs[i]? = some c) : ((xs.take (i + 1)).filter p).map f = ((xs.take i).filter p).map f ++ (if p c = true then [f c] else []) := by
  rw [List.take_add_one, h, List.filter_append, List.map_append]
  by_cases hp : p c = true
  · rw [if_pos hp]
    simp [hp]
  · rw [if_neg hp]
    simp [hp]
theorem all_filter {α : Type} (p : α → Bool) (xs : List α) : ((xs.filter fun c => !p c)).isEmpty = xs.all p := by
  induction xs with
  | nil => rfl
  | cons a r ih =>
    cases h : p a with
    | true => simp only [List.filter_cons, h, List.all_cons, Bool.not_true, Bool.true_and]; exact ih
    | false => simp [List.filter_cons, h, List.all_cons]
theorem isEmpty_map {α β : Type} (f : α → β) (xs : List α) : (xs.map f).isEmpty = xs.isEmpty := by
  cases xs <;> rfl
theorem str_at {ss : List Str} {i : Nat} {x : V} (h : (ss.map V.str)[i]? = some x) : ∃ y, x = .str y ∧ ss[i]? = some y ∧ y ∈ ss := by
  rw [List.getElem?_map] at h
  cases e : ss[i]? with
  | none =>
    rw [e] at h
    cases h
  | some y =>
    rw [e] at h
    cases h
    exact ⟨y, rfl, rfl, List.mem_of_getElem? e⟩
theorem cutV_map {α : Type} (f : α → V) (ns : List α) (lo hi : Option Int) : ∃ ms : List α, cutV (ns.map f) lo hi = ms.map f ∧ ms.length ≤ ns.length := by
  refine ⟨(ns.drop (HT.sIx ns.length 0 lo)).take (HT.sIx ns.length ns.length hi - HT.sIx ns.length 0 lo), ?_, ?_⟩
  · unfold cutV
    rw [List.length_map, List.map_take, List.map_drop]
  · rw [List.length_take, List.length_drop]
    omega
theorem int_at {ns : List Int} {i : Nat} {x : V} (h : (ns.map V.int)[i]? = some x) : ∃ n, x = .int n := by
  rw [List.getElem?_map] at h
  cases e : ns[i]? with
  | none =>
    rw [e] at h
    cases h
  | some y =>
    rw [e] at h
    cases h
    exact ⟨y, rfl⟩
theorem dp_bools {K : PySem.W.Frag} {H : Hp} : ∀ bs : List Bool, DpAll K H (bs.map V.bl) (bs.map PyData.bool)
  | [] => .nil
  | b :: r => .cons (.bl b) (dp_bools r)
theorem lay_bools : ∀ bs : List Bool, PyData.canLayAll0 (bs.map PyData.bool) = true
  | [] => rfl
  | _ :: r => by simp [PyData.canLayAll0, PyData.canLay0, lay_bools r]
theorem depth_bools : ∀ bs : List Bool, PyData.depthAll (bs.map PyData.bool) = 0
  | [] => rfl
  | _ :: r => by simp [PyData.depthAll, PyData.depth, depth_bools r]
theorem shaped_bools (bs : List Bool) : SeqAt.shaped (.list (bs.map PyData.bool)) = true := by
  simp [SeqAt.shaped, PyData.canLay0, PyData.depth, lay_bools, depth_bools]
theorem eqv_bools (bs : List Bool) : PyData.eqv (.list (bs.map PyData.bool)) (.list (bs.map PyData.bool)) = true := SeqAt.eqv_refl _ (by simp [PyData.canLay0, lay_bools])
def spLaw (K : PySem.W.Frag) : Sp := fun vs H Q _ => ∃ (a : Addr) (ns : List Int), vs = [.ref a] ∧ SqL K H a (ns.map V.int) ∧ ns.length ≤ 63 ∧ ∀ H', Q (.bl true) H'
/-! ### sorted(xs) of data that are alike, any length: the items by letters of a type B, their values, their data -/
section
variable {B : Type} {val : B → V} {enc : B → PyData}
theorem vals_each : ∀ {bs : List B} {us : List Value}, Vals (bs.map val) us → PySem.W.EachIs (fun u b => RelV (val b) u) us bs
  | [], _, r => by
    cases r
    exact .nil
  | b :: bs, _, r => by
    cases r with
    | cons h t => exact .cons h (vals_each t)
theorem each_vals : ∀ {bs : List B} {us : List Value}, PySem.W.EachIs (fun u b => RelV (val b) u) us bs → Vals (bs.map val) us
  | _, _, .nil => .nil
  | _, _, .cons h t => .cons h (each_vals t)
theorem each_reads {X : Cx} {pins : List (Addr × Obj)} {σ : L2.St} {H : Hp} {s : Shared} (I : Inv X pins σ H s) : ∀ {bs : List B} {us : List Value}, (∀ b ∈ bs, Dp X.K H (val b) (enc b)) → PySem.W.EachIs (fun u b => RelV (val b) u) us bs → PySem.W.EachIs (fun u b => ∃ as, Reads s.heap u (enc b) as) us bs
  | _, _, _, .nil => .nil
  | _, _, hd, .cons h t => .cons (Dp.reads I _ _ _ (hd _ (List.mem_cons_self ..)) h) (each_reads I (fun b hb => hd b (List.mem_cons_of_mem _ hb)) t)
def sortB (enc : B → PyData) (bs : List B) : List B := bs.mergeSort (PySem.W.dataLe false enc)
def rSortB (K : PySem.W.Frag) (val : B → V) (enc : B → PyData) : List V → Hp → VK → Prop := fun vs H Q => ∃ (a : Addr) (bs : List B), vs = [V.ref a] ∧ SqL K H a (bs.map val) ∧ (∀ b ∈ bs, Dp K H (val b) (enc b)) ∧ PySem.W.AllAlike (bs.map enc) ∧ PySem.W.Sortable (bs.map enc) ∧
  (∀ b ∈ bs, (enc b).depth ≤ 60) ∧ ∀ p, H p = none → Q (.ref p) (upd H p (.lst ((sortB enc bs).map val)))
theorem cr_sortB {X : Cx} (val : B → V) (enc : B → PyData) (hu : X.A.units + 64 < cLine) : CallR X (.builtin "sorted") (rSortB X.K val enc) := by
  intro pins s σ H vs us Q I r h
  obtain ⟨a, bs, rfl, hs, hd, ha, hk, hdp, q⟩ := h
  obtain ⟨its, rv, hl, hz⟩ := I.list hs
  rw [Vals.ref1 r]
  have e1 := vals_each rv
  rw [List.length_map] at hz
  refine PySem.W.sorted_data (enc := enc) hl.isList e1 (each_reads I hd e1) ha hk hz (fun b hb => by have := hdp b hb; omega) fun out ho eo => ?_
  obtain ⟨ep, he'⟩ := PyProof.Rows.sortedAll_at s.heap its out.toArray
  have hlen : ((sortB enc bs).map val).length ≤ sizeLine := by
    rw [List.length_map]
    unfold sortB
    rw [List.length_mergeSort]
    exact hz
  exact ⟨.ref _, upd H (s.heap.objs.size + 1) (.lst ((sortB enc bs).map val)), I.laid (t' := s.toks) (fun _ _ => PyProof.Rows.sortedAll_old) (Nat.le_succ _) ⟨hlen, out, ep, each_vals eo, he'⟩, rfl, q _ (I.hok.fresh (Nat.le_succ _))⟩
theorem sortB_perm (enc : B → PyData) (bs : List B) : (sortB enc bs).Perm bs := List.mergeSort_perm ..
theorem sortB_sorted (enc : B → PyData) (bs : List B) : (sortB enc bs).Pairwise fun a b => PySem.W.dataLe false enc a b = true := PySem.W.sort_pairwise (PySem.W.sortLe_total _ _ _) bs
end
theorem perm_sorted_eq {α : Type} {r : α → α → Prop} (anti : ∀ a b, r a b → r b a → a = b) : ∀ A B : List α, A.Pairwise r → B.Pairwise r → A.Perm B → A = B
  | [], B, _, _, h => (List.Perm.nil_eq h)
  | a :: A, [], _, _, h => absurd h.length_eq (by simp)
  | a :: A, b :: B, ha, hb, h => by
    have e : a = b := by
      rcases List.mem_cons.mp (h.mem_iff.mp (List.mem_cons_self ..)) with e | e
      · exact e
      · rcases List.mem_cons.mp (h.mem_iff.mpr (List.mem_cons_self ..)) with e' | e'
        · exact e'.symm
        · exact anti a b ((List.pairwise_cons.mp ha).1 b e') ((List.pairwise_cons.mp hb).1 a e)
    subst e
    rw [perm_sorted_eq anti A B (List.pairwise_cons.mp ha).2 (List.pairwise_cons.mp hb).2 (List.Perm.cons_inv h)]
/-! ### pairs of texts, in order -/
def ltS (a b : Str) : Prop := a.cps.toList < b.cps.toList
instance (a b : Str) : Decidable (ltS a b) := inferInstanceAs (Decidable (a.cps.toList < b.cps.toList))
theorem ltS_irr (a : Str) : ¬ ltS a a := List.lt_irrefl _
theorem ltS_trans {a b c : Str} (h : ltS a b) (h2 : ltS b c) : ltS a c := List.lt_trans h h2
theorem ltS_tri (a b : Str) : ltS a b ∨ a = b ∨ ltS b a := by
  by_cases h : ltS a b
  · exact .inl h
  · by_cases h2 : ltS b a
    · exact .inr (.inr h2)
    · exact .inr (.inl (PyProof.Rows.ext_toList (List.le_antisymm (List.not_lt.mp h2) (List.not_lt.mp h))))
def leSS (p q : Str × Str) : Prop := ltS p.1 q.1 ∨ (p.1 = q.1 ∧ ¬ ltS q.2 p.2)
theorem leSS_anti (p q : Str × Str) (h : leSS p q) (h2 : leSS q p) : p = q := by
  obtain ⟨a, b⟩ := p
  obtain ⟨c, d⟩ := q
  rcases h with h | ⟨e, h⟩
  · rcases h2 with h2 | ⟨e2, h2⟩
    · exact absurd (ltS_trans h h2) (ltS_irr _)
    · have e2' : c = a := e2
      subst e2'
      exact absurd h (ltS_irr _)
  · have e' : a = c := e
    subst e'
    rcases h2 with h2 | ⟨e2, h2⟩
    · exact absurd h2 (ltS_irr _)
    · rcases ltS_tri b d with x | x | x
      · exact absurd x h2
      · rw [x]
      · exact absurd x h
theorem dataLe_ss {B : Type} (x y : B → Str) (p q : B) (h : PySem.W.dataLe false (fun b => .tuple [.str (x b), .str (y b)]) p q = true) : leSS (x p, y p) (x q, y q) := by
  have e : PySem.W.dataLt (.tuple [.str (x q), .str (y q)]) (.tuple [.str (x p), .str (y p)]) = false := by
    have h' : (!PySem.W.dataLt (.tuple [.str (x q), .str (y q)]) (.tuple [.str (x p), .str (y p)])) = true := h
    simpa using h'
  rw [PySem.W.dataLt_pair (by simp [PySem.W.alike]) (by simp [PySem.W.alike]), PySem.W.dataLt_str, PySem.W.dataLt_str] at e
  simp only [PyData.eqv, beq_iff_eq] at e
  by_cases h1 : x q = x p
  · rw [if_pos h1] at e
    by_cases h2 : y q = y p
    · refine .inr ⟨h1.symm, fun z => ?_⟩
      have z' : ltS (y q) (y p) := z
      rw [h2] at z'
      exact ltS_irr _ z'
    · rw [if_neg h2] at e
      exact .inr ⟨h1.symm, of_decide_eq_false e⟩
  · rw [if_neg h1] at e
    rcases ltS_tri (x p) (x q) with z | z | z
    · exact .inl z
    · exact absurd z.symm h1
    · exact absurd z (of_decide_eq_false e)
end My
namespace My
open PySem PySem.Spec PyProof.Rows L2 TL
def Asc (z : Str) : Prop := ∀ c ∈ z.cps.toList, c < 128
instance (z : Str) : Decidable (Asc z) := inferInstanceAs (Decidable (∀ c ∈ z.cps.toList, c < 128))
theorem asc_mk {t : List Nat} (h : ∀ c ∈ t, c < 128) : Asc ⟨t.toArray⟩ := fun c hc => h c (by simpa using hc)
theorem asc_app {a b : Str} (ha : Asc a) (hb : Asc b) : Asc (a ++ b) := by
  intro c hc
  have e : (a ++ b).cps.toList = a.cps.toList ++ b.cps.toList := Array.toList_append
  rw [e] at hc
  rcases List.mem_append.mp hc with h | h
  · exact ha c h
  · exact hb c h
theorem asc_cut {z : Str} (h : Asc z) (lo hi : Option Int) : Asc (cutS z lo hi) := by
  refine asc_mk fun c hc => h c ?_
  exact List.mem_of_mem_drop (List.mem_of_mem_take hc)
theorem inV_strs (x : Str) (F : List Str) : inV (.str x) (F.map V.str) = decide (x ∈ F) := by
  unfold inV
  rw [List.any_map, Bool.eq_iff_iff, List.any_eq_true, decide_eq_true_iff]
  constructor
  · rintro ⟨y, hy, e⟩
    have e' : (y == x) = true := e
    rw [← eq_of_beq e']
    exact hy
  · intro h
    exact ⟨x, h, by show (x == x) = true; exact beq_self_eq_true x⟩
theorem flat_strs (F : List Str) : (F.map V.str).all flatV = true := by
  rw [List.all_map, List.all_eq_true]
  intro x _
  rfl
/-! ### texts as data -/
theorem dp_strs {K : PySem.W.Frag} {H : Hp} : ∀ F : List Str, DpAll K H (F.map V.str) (F.map PyData.str)
  | [] => .nil
  | b :: r => .cons (.str b) (dp_strs r)
theorem ok_asc {z : Str} (h : Asc z) : PyData.strOk z = true := by
  unfold PyData.strOk
  rw [Array.all_eq_true']
  intro c hc
  have : c < 128 := h c (by simpa using hc)
  exact decide_eq_true (by omega)
theorem lay_strs : ∀ F : List Str, (∀ z ∈ F, Asc z) → PyData.canLayAll0 (F.map PyData.str) = true
  | [], _ => rfl
  | z :: r, h => by simp [PyData.canLayAll0, PyData.canLay0, ok_asc (h z (List.mem_cons_self ..)), lay_strs r fun y hy => h y (List.mem_cons_of_mem _ hy)]
theorem depth_strs : ∀ F : List Str, PyData.depthAll (F.map PyData.str) = 0
  | [] => rfl
  | _ :: r => by simp [PyData.depthAll, PyData.depth, depth_strs r]
theorem shaped_strs (F : List Str) (h : ∀ z ∈ F, Asc z) : SeqAt.shaped (.list (F.map PyData.str)) = true := by
  simp [SeqAt.shaped, PyData.canLay0, PyData.depth, lay_strs F h, depth_strs]
end My
namespace My
open PySem PySem.Spec PyProof.Rows L2 TL
def topS (i : Nat) : Stmt := PySem.Challenge.pw_pagelodge_k05_stretches_of_spans.main.body.getD i (.Pass ⟨0, 0, 0, 0⟩)
abbrev s_stretches : Stmt := topS 1
theorem sc_stretches : FnScope ["spans", "size", "span"] ["spans", "size"] (defScope s_stretches) := ⟨rfl, rfl, rfl, by decide +kernel, rfl, by decide +kernel, by decide +kernel⟩
abbrev s_within : Stmt := topS 2
theorem sc_within : FnScope ["span", "size", "start", "stop"] ["span", "size"] (defScope s_within) := ⟨rfl, rfl, rfl, by decide +kernel, rfl, by decide +kernel, by decide +kernel⟩
abbrev s_merged : Stmt := topS 3
theorem sc_merged : FnScope ["pairs", "found", "start", "stop", "pair"] ["pairs"] (defScope s_merged) := ⟨rfl, rfl, rfl, by decide +kernel, rfl, by decide +kernel, by decide +kernel⟩
abbrev s_law_well : Stmt := topS 5
theorem sc_law_well : FnScope ["_law_cell"] ["_law_cell"] (defScope s_law_well) := ⟨rfl, rfl, rfl, by decide +kernel, rfl, by decide +kernel, by decide +kernel⟩
abbrev s_law_draw : Stmt := topS 6
theorem sc_law_draw : FnScope ["_law_well_here", "_law_many", "_law_found", "_law_number"] ["_law_well_here", "_law_many"] (defScope s_law_draw) := ⟨rfl, rfl, rfl, by decide +kernel, rfl, by decide +kernel, by decide +kernel⟩
abbrev s_law_great : Stmt := topS 7
theorem sc_law_great : FnScope ["_law_well_here", "_law_found", "_law_k"] ["_law_well_here"] (defScope s_law_great) := ⟨rfl, rfl, rfl, by decide +kernel, rfl, by decide +kernel, by decide +kernel⟩
abbrev s_law_span : Stmt := topS 8
theorem sc_law_span : FnScope ["_law_well_here", "_law_far", "_law_known", "_law_kind", "_law_low", "_law_wide", "_law_last"] ["_law_well_here", "_law_far", "_law_known"] (defScope s_law_span) := ⟨rfl, rfl, rfl, by decide +kernel, rfl, by decide +kernel, by decide +kernel⟩
abbrev s_law_tells : Stmt := topS 9
theorem sc_law_tells : FnScope ["_law_span_here", "_law_at", "_law_size", "_law_low", "_law_high"] ["_law_span_here", "_law_at", "_law_size"] (defScope s_law_tells) := ⟨rfl, rfl, rfl, by decide +kernel, rfl, by decide +kernel, by decide +kernel⟩
abbrev s_law_whole : Stmt := topS 10
theorem sc_law_whole : FnScope ["_law_number"] ["_law_number"] (defScope s_law_whole) := ⟨rfl, rfl, rfl, by decide +kernel, rfl, by decide +kernel, by decide +kernel⟩
abbrev s_law_rising : Stmt := topS 11
theorem sc_law_rising : FnScope ["_law_found", "_law_size", "_law_last", "_law_one"] ["_law_found", "_law_size"] (defScope s_law_rising) := ⟨rfl, rfl, rfl, by decide +kernel, rfl, by decide +kernel, by decide +kernel⟩
abbrev s_law_places : Stmt := topS 12
theorem sc_law_places : FnScope ["_law_spans", "_law_found", "_law_size", "_law_ends", "_law_low", "_law_high", "_law_places_here", "_law_end", "_law_at"] ["_law_spans", "_law_found", "_law_size"] (defScope s_law_places) := ⟨rfl, rfl, rfl, by decide +kernel, rfl, by decide +kernel, by decide +kernel⟩
abbrev s_law : Stmt := topS 13
theorem sc_law : FnScope ["_law_script", "_law_cell", "_law_well_here", "_law_far", "_law_size", "_law_many", "_law_spans", "_law_k", "_law_handed", "_law_found", "_law_other", "_law_at", "_law_due", "_law_told", "_law_span_here", "_law_one"] ["_law_script"] (defScope s_law) := ⟨rfl, rfl, rfl, by decide +kernel, rfl, by decide +kernel, by decide +kernel⟩
structure Def (K : PySem.W.Frag) (mg : Str → Option Value) (x : Str) (st : Stmt) (ps : List Str) (f : Addr) (fd : FuncData) : Prop where
  F : Fun K x x st f fd
  b : Binds K fd ps []
  g : mg x = some (.ref f)
structure Txt (K : PySem.W.Frag) (mg : Str → Option Value) where
  f_stretches : Addr
  fd_stretches : FuncData
  d_stretches : Def K mg "stretches" s_stretches ["spans", "size"] f_stretches fd_stretches
  f_within : Addr
  fd_within : FuncData
  d_within : Def K mg "within" s_within ["span", "size"] f_within fd_within
  f_merged : Addr
  fd_merged : FuncData
  d_merged : Def K mg "merged" s_merged ["pairs"] f_merged fd_merged
  f_law_well : Addr
  fd_law_well : FuncData
  d_law_well : Def K mg "_law_well" s_law_well ["_law_cell"] f_law_well fd_law_well
  f_law_draw : Addr
  fd_law_draw : FuncData
  d_law_draw : Def K mg "_law_draw" s_law_draw ["_law_well_here", "_law_many"] f_law_draw fd_law_draw
  f_law_great : Addr
  fd_law_great : FuncData
  d_law_great : Def K mg "_law_great" s_law_great ["_law_well_here"] f_law_great fd_law_great
  f_law_span : Addr
  fd_law_span : FuncData
  d_law_span : Def K mg "_law_span" s_law_span ["_law_well_here", "_law_far", "_law_known"] f_law_span fd_law_span
  f_law_tells : Addr
  fd_law_tells : FuncData
  d_law_tells : Def K mg "_law_tells" s_law_tells ["_law_span_here", "_law_at", "_law_size"] f_law_tells fd_law_tells
  f_law_whole : Addr
  fd_law_whole : FuncData
  d_law_whole : Def K mg "_law_whole" s_law_whole ["_law_number"] f_law_whole fd_law_whole
  f_law_rising : Addr
  fd_law_rising : FuncData
  d_law_rising : Def K mg "_law_rising" s_law_rising ["_law_found", "_law_size"] f_law_rising fd_law_rising
  f_law_places : Addr
  fd_law_places : FuncData
  d_law_places : Def K mg "_law_places" s_law_places ["_law_spans", "_law_found", "_law_size"] f_law_places fd_law_places
  f_law : Addr
  fd_law : FuncData
  d_law : Def K mg "law" s_law ["_law_script"] f_law fd_law
  m_bool : mg "bool" = none
  m_int : mg "int" = none
  m_isinstance : mg "isinstance" = none
  m_len : mg "len" = none
  m_list : mg "list" = none
  m_max : mg "max" = none
  m_min : mg "min" = none
  m_range : mg "range" = none
  m_sorted : mg "sorted" = none
  m_tuple : mg "tuple" = none
/-! ### spans -/
abbrev Spn := Option Int × Option Int
def oV : Option Int → V
  | none => .non
  | some n => .int n
/-- a span in the heap -/
def PS2 (H : Hp) (v : V) (sp : Spn) : Prop := ∃ t : Addr, v = .ref t ∧ H t = some (.tup [oV sp.1, oV sp.2])
theorem PS2.mono {H H' : Hp} {v : V} {sp : Spn} (e : Same H H') (h : PS2 H v sp) : PS2 H' v sp := by
  obtain ⟨t, rfl, h⟩ := h
  exact ⟨t, rfl, e _ _ h⟩
theorem paired_at {α β : Type} {R : α → β → Prop} : ∀ {a : List α} {b : List β}, Paired R a b → ∀ {i : Nat} {x : α}, a[i]? = some x → ∃ y, b[i]? = some y ∧ R x y
  | _, _, .nil, i, x, h => by simp at h
  | _, _, .cons (a := u) (b := v) r t, 0, x, h => by
    cases h
    exact ⟨v, rfl, r⟩
  | _, _, .cons r t, i + 1, x, h => paired_at t h
theorem ps2s_mono {H H' : Hp} {xs : List V} {rs : List Spn} (e : Same H H') (h : Paired (PS2 H) xs rs) : Paired (PS2 H') xs rs := Paired.mono (fun _ _ => PS2.mono e) h
theorem PS2.upd {H : Hp} {D : Addr} {u o : HO} {v : V} {sp : Spn} (hD : H D = some u) (hu : ∀ xs, u ≠ .tup xs) (h : PS2 H v sp) : PS2 (upd H D o) v sp := by
  obtain ⟨t, rfl, h⟩ := h
  refine ⟨t, rfl, ?_⟩
  rw [upd_ne]
  · exact h
  · intro z
    rw [z, hD] at h
    exact hu _ (Option.some.inj h)
theorem ps2s_upd {H : Hp} {D : Addr} {u o : HO} {xs : List V} {rs : List Spn} (hD : H D = some u) (hu : ∀ xs, u ≠ .tup xs) (h : Paired (PS2 H) xs rs) : Paired (PS2 (upd H D o)) xs rs := Paired.mono (fun _ _ => PS2.upd hD hu) h
theorem PS2.wx {W : Addr} {H H' : Hp} {v : V} {sp : Spn} (hI : IsW H W) (x : Wx W H H') (h : PS2 H v sp) : PS2 H' v sp := by
  obtain ⟨t, rfl, h⟩ := h
  refine ⟨t, rfl, x.keep t _ (fun z => ?_) h⟩
  obtain ⟨a, b, c, hw⟩ := hI
  rw [z, hw] at h
  cases h
theorem ps2s_wx {W : Addr} {H H' : Hp} {xs : List V} {rs : List Spn} (hI : IsW H W) (x : Wx W H H') (h : Paired (PS2 H) xs rs) : Paired (PS2 H') xs rs := Paired.mono (fun _ _ => PS2.wx hI x) h
theorem paired_app {α β : Type} {R : α → β → Prop} : ∀ {a : List α} {b : List β} {c : List α} {d : List β}, Paired R a b → Paired R c d → Paired R (a ++ c) (b ++ d)
  | _, _, _, _, .nil, h => h
  | _, _, _, _, .cons x t, h => .cons x (paired_app t h)
theorem paired_set {α β : Type} {R : α → β → Prop} {x : α} {y : β} (r : R x y) : ∀ {a : List α} {b : List β} (n : Nat), Paired R a b → Paired R (a.set n x) (b.set n y)
  | _, _, _, .nil => .nil
  | _, _, 0, .cons _ t => .cons r t
  | _, _, n + 1, .cons q t => .cons q (paired_set r n t)
/-! ### spans as data -/
def od : Option Int → PyData
  | none => .none
  | some n => .int n
def sd (sp : Spn) : PyData := .tuple [od sp.1, od sp.2]
theorem dp_od {K : PySem.W.Frag} {H : Hp} (x : Option Int) : Dp K H (oV x) (od x) := by
  cases x with
  | none => exact .non
  | some n => exact .int n
theorem dp_sps {K : PySem.W.Frag} {H : Hp} : ∀ {xs : List V} {rs : List Spn}, Paired (PS2 H) xs rs → DpAll K H xs (rs.map sd)
  | _, _, .nil => .nil
  | _, _, .cons h t => by
    obtain ⟨a, rfl, h⟩ := h
    exact .cons (.tup (SqT.of h) (.cons (dp_od _) (.cons (dp_od _) .nil))) (dp_sps t)
theorem lay_od (x : Option Int) : PyData.canLay0 (od x) = true := by cases x <;> simp [od, PyData.canLay0]
theorem depth_od (x : Option Int) : PyData.depth (od x) = 0 := by cases x <;> simp [od, PyData.depth]
theorem lay_sps : ∀ rs : List Spn, PyData.canLayAll0 (rs.map sd) = true
  | [] => rfl
  | r :: t => by simp [PyData.canLayAll0, PyData.canLay0, sd, lay_od, lay_sps t]
theorem depth_sps : ∀ rs : List Spn, PyData.depthAll (rs.map sd) ≤ 1
  | [] => Nat.zero_le _
  | r :: t => by
    have := depth_sps t
    simp only [List.map_cons, PyData.depthAll, sd, PyData.depth, depth_od]
    show max _ _ ≤ 1
    have e : max 0 (max 0 0) + 1 = 1 := rfl
    omega
theorem shaped_sps (rs : List Spn) : SeqAt.shaped (.list (rs.map sd)) = true := by
  have := depth_sps rs
  simp only [SeqAt.shaped, PyData.canLay0, PyData.depth, lay_sps rs, Bool.true_and]
  exact decide_eq_true (by omega)
theorem eqv_sps (rs : List Spn) : PyData.eqv (.list (rs.map sd)) (.list (rs.map sd)) = true := SeqAt.eqv_refl _ (by simp [PyData.canLay0, lay_sps rs])
theorem kit2 {K : PySem.W.Frag} {n m : String} {b : Bool} (h : kitB n m = some b) : PySem.W.kitOne K (.type n) (.type m) = some b := kit_ty h

/-! ### pairs of numbers, in order -/
def leII (p q : Int × Int) : Bool := decide (p.1 < q.1 ∨ (p.1 = q.1 ∧ p.2 ≤ q.2))
theorem leII_anti (p q : Int × Int) (h : leII p q = true) (h2 : leII q p = true) : p = q := by
  obtain ⟨a, b⟩ := p
  obtain ⟨c, d⟩ := q
  have h' := of_decide_eq_true h
  have h2' := of_decide_eq_true h2
  dsimp only at h' h2'
  have e1 : a = c := by omega
  have e2 : b = d := by omega
  rw [e1, e2]
def srt (l : List (Int × Int)) : List (Int × Int) := l.mergeSort leII
theorem srt_perm (l : List (Int × Int)) : (srt l).Perm l := List.mergeSort_perm ..
theorem srt_sorted (l : List (Int × Int)) : (srt l).Pairwise fun p q => leII p q = true :=
  List.pairwise_mergeSort (le := leII) (fun a b c h h2 => by
    have h' := of_decide_eq_true h
    have h2' := of_decide_eq_true h2
    exact decide_eq_true (by omega)) (fun a b => by
    unfold leII
    rw [Bool.or_eq_true, decide_eq_true_iff, decide_eq_true_iff]
    omega) l
theorem sortB_srt (bs : List (Addr × Int × Int)) : (sortB (fun b : Addr × Int × Int => .tuple [.int b.2.1, .int b.2.2]) bs).map (·.2) = srt (bs.map (·.2)) := by
  refine perm_sorted_eq (r := fun p q => leII p q = true) leII_anti _ _ ?_ (srt_sorted _) ?_
  · refine List.pairwise_map.mpr ((sortB_sorted _ bs).imp fun {a b} h => ?_)
    rw [PySem.W.dataLe_ii (fun b : Addr × Int × Int => b.2.1) (fun b => b.2.2)] at h
    exact h
  · exact ((sortB_perm _ bs).map _).trans (srt_perm _).symm
/-! ### what is merged -/
def stepR : List (Int × Int) → Int × Int → List (Int × Int)
  | [], p => [p]
  | q :: r, p => if p.1 ≤ q.2 then (q.1, if p.2 > q.2 then p.2 else q.2) :: r else p :: q :: r
theorem stepR_cons (q p : Int × Int) (r : List (Int × Int)) : stepR (q :: r) p = if p.1 ≤ q.2 then (q.1, if p.2 > q.2 then p.2 else q.2) :: r else p :: q :: r := rfl
def mrg (ps : List (Int × Int)) : List (Int × Int) := ((srt (ps.filter fun p => decide (p.1 < p.2))).foldl stepR []).reverse
def okp (sz : Int) (u : Int × Int) : Prop := 0 ≤ u.1 ∧ u.1 < u.2 ∧ u.2 ≤ sz
def cov (l : List (Int × Int)) (at_ : Int) : Prop := ∃ u ∈ l, u.1 ≤ at_ ∧ at_ < u.2
theorem cov_nil {x : Int} : ¬ cov [] x := fun ⟨_, h, _⟩ => nomatch h
theorem cov_cons {p : Int × Int} {l : List (Int × Int)} {x : Int} : cov (p :: l) x ↔ (p.1 ≤ x ∧ x < p.2) ∨ cov l x := by
  constructor
  · rintro ⟨u, hu, h⟩
    rcases List.mem_cons.mp hu with rfl | hu
    · exact .inl h
    · exact .inr ⟨u, hu, h⟩
  · rintro (h | ⟨u, hu, h⟩)
    · exact ⟨p, List.mem_cons_self .., h⟩
    · exact ⟨u, List.mem_cons_of_mem _ hu, h⟩
theorem step_ok {sz : Int} {acc : List (Int × Int)} {p : Int × Int} (h1 : acc.Pairwise fun q u => u.2 < q.1) (h2 : ∀ u ∈ acc, okp sz u) (h3 : ∀ u ∈ acc, u.1 ≤ p.1) (hp : okp sz p) :
    (stepR acc p).Pairwise (fun q u => u.2 < q.1) ∧ (∀ u ∈ stepR acc p, okp sz u) ∧ (∀ u ∈ stepR acc p, u.1 ≤ p.1) ∧ ∀ x, cov (stepR acc p) x ↔ cov acc x ∨ (p.1 ≤ x ∧ x < p.2) := by
  obtain ⟨p0, p1, p2⟩ := hp
  cases acc with
  | nil =>
    refine ⟨List.pairwise_singleton _ _, fun u hu => ?_, fun u hu => ?_, fun x => ?_⟩
    · rw [List.mem_singleton.mp hu]
      exact ⟨p0, p1, p2⟩
    · rw [List.mem_singleton.mp hu]
      exact Int.le_refl _
    · show cov [p] x ↔ _
      rw [cov_cons]
      constructor
      · rintro (h | h)
        · exact .inr h
        · exact absurd h cov_nil
      · rintro (h | h)
        · exact absurd h cov_nil
        · exact .inl h
  | cons q r =>
    obtain ⟨q0, q1, q2⟩ := h2 q (List.mem_cons_self ..)
    have hq := h3 q (List.mem_cons_self ..)
    have hr := List.pairwise_cons.mp h1
    rw [stepR_cons]
    by_cases e : p.1 ≤ q.2
    · rw [if_pos e]
      refine ⟨List.pairwise_cons.mpr ⟨fun u hu => hr.1 u hu, hr.2⟩, fun u hu => ?_, fun u hu => ?_, fun x => ?_⟩
      · rcases List.mem_cons.mp hu with rfl | hu
        · refine ⟨q0, ?_, ?_⟩ <;> dsimp only <;> split <;> omega
        · exact h2 u (List.mem_cons_of_mem _ hu)
      · rcases List.mem_cons.mp hu with rfl | hu
        · exact hq
        · exact h3 u (List.mem_cons_of_mem _ hu)
      · rw [cov_cons, cov_cons]
        dsimp only
        constructor
        · rintro (⟨a, b⟩ | h)
          · split at b
            · by_cases c : x < q.2
              · exact .inl (.inl ⟨a, c⟩)
              · exact .inr ⟨by omega, b⟩
            · exact .inl (.inl ⟨a, b⟩)
          · exact .inl (.inr h)
        · rintro ((⟨a, b⟩ | h) | ⟨a, b⟩)
          · refine .inl ⟨a, ?_⟩
            split <;> omega
          · exact .inr h
          · refine .inl ⟨by omega, ?_⟩
            split <;> omega
    · rw [if_neg e]
      refine ⟨List.pairwise_cons.mpr ⟨fun u hu => ?_, h1⟩, fun u hu => ?_, fun u hu => ?_, fun x => ?_⟩
      · rcases List.mem_cons.mp hu with rfl | hu
        · omega
        · have := hr.1 u hu
          omega
      · rcases List.mem_cons.mp hu with rfl | hu
        · exact ⟨p0, p1, p2⟩
        · exact h2 u hu
      · rcases List.mem_cons.mp hu with rfl | hu
        · exact Int.le_refl _
        · exact h3 u hu
      · rw [cov_cons]
        exact Or.comm
theorem fold_ok {sz : Int} : ∀ (l acc : List (Int × Int)), (l.Pairwise fun p q => leII p q = true) → (∀ u ∈ acc, ∀ p ∈ l, u.1 ≤ p.1) → (acc.Pairwise fun q u => u.2 < q.1) → (∀ u ∈ acc, okp sz u) → (∀ p ∈ l, okp sz p) →
    ((l.foldl stepR acc).Pairwise fun q u => u.2 < q.1) ∧ (∀ u ∈ l.foldl stepR acc, okp sz u) ∧ ∀ x, cov (l.foldl stepR acc) x ↔ cov acc x ∨ cov l x
  | [], acc, _, _, h1, h2, _ => ⟨h1, h2, fun x => ⟨.inl, fun h => h.elim id fun h => absurd h cov_nil⟩⟩
  | p :: l, acc, hl, ha, h1, h2, hp => by
    obtain ⟨s1, s2, s3, s4⟩ := step_ok h1 h2 (fun u hu => ha u hu p (List.mem_cons_self ..)) (hp p (List.mem_cons_self ..))
    have hl' := List.pairwise_cons.mp hl
    obtain ⟨r1, r2, r3⟩ := fold_ok l (stepR acc p) hl'.2 (fun u hu v hv => by
      have a := s3 u hu
      have b := of_decide_eq_true (hl'.1 v hv)
      omega) s1 s2 fun v hv => hp v (List.mem_cons_of_mem _ hv)
    refine ⟨r1, r2, fun x => ?_⟩
    show cov (l.foldl stepR (stepR acc p)) x ↔ _
    rw [r3, s4, cov_cons, or_assoc]
theorem mrg_ok {sz : Int} {ps : List (Int × Int)} (h : ∀ p ∈ ps, p.1 < p.2 → okp sz p) :
    ((mrg ps).Pairwise fun u v => u.2 < v.1) ∧ (∀ u ∈ mrg ps, okp sz u) ∧ ∀ x, cov (mrg ps) x ↔ cov ps x := by
  have hm : ∀ p, p ∈ srt (ps.filter fun p => decide (p.1 < p.2)) ↔ p ∈ ps ∧ p.1 < p.2 := fun p => by
    rw [(srt_perm _).mem_iff, List.mem_filter, decide_eq_true_iff]
  obtain ⟨r1, r2, r3⟩ := fold_ok (sz := sz) (srt (ps.filter fun p => decide (p.1 < p.2))) [] (srt_sorted _) (fun _ h => nomatch h) List.Pairwise.nil (fun _ h => nomatch h) fun p hp => h p ((hm p).mp hp).1 ((hm p).mp hp).2
  refine ⟨List.pairwise_reverse.mpr r1, fun u hu => r2 u (List.mem_reverse.mp hu), fun x => ?_⟩
  have e1 : cov (mrg ps) x ↔ cov ((srt (ps.filter fun p => decide (p.1 < p.2))).foldl stepR []) x := by
    constructor
    · rintro ⟨u, hu, k⟩
      exact ⟨u, List.mem_reverse.mp hu, k⟩
    · rintro ⟨u, hu, k⟩
      exact ⟨u, List.mem_reverse.mpr hu, k⟩
  rw [e1, r3]
  constructor
  · rintro (k | ⟨u, hu, k⟩)
    · exact absurd k cov_nil
    · exact ⟨u, ((hm u).mp hu).1, k⟩
  · rintro ⟨u, hu, k⟩
    exact .inr ⟨u, (hm u).mpr ⟨hu, by omega⟩, k⟩
/-! ### spans in a text of a size -/
def iv (p : Int × Int) : Spn := (some p.1, some p.2)
def wi (size : Int) : Spn → Int × Int
  | (none, some n) => (if size - n > 0 then size - n else 0, size)
  | (none, none) => (0, size)
  | (some a, none) => (a, size)
  | (some a, some b) => (a, if size < b then size else b)
def good5 : Spn → Prop
  | (none, none) => False
  | (none, some n) => 1 ≤ n
  | (some a, none) => 0 ≤ a
  | (some a, some b) => 0 ≤ a ∧ a < b
def tells (size at_ : Int) : Spn → Bool
  | (none, none) => false
  | (none, some n) => decide (size - n ≤ at_)
  | (some a, none) => decide (a ≤ at_)
  | (some a, some b) => decide (a ≤ at_) && decide (at_ < b)
def strT (sps : List Spn) (size : Int) : List (Int × Int) := if sps = [] then mrg [(0, size)] else mrg (sps.map (wi size))
theorem wi_ok {size : Int} (h0 : 0 ≤ size) {sp : Spn} (hg : good5 sp) (h : (wi size sp).1 < (wi size sp).2) : okp size (wi size sp) := by
  obtain ⟨a, b⟩ := sp
  cases a <;> cases b <;> simp only [good5] at hg <;> simp only [wi] at h ⊢ <;> refine ⟨?_, ?_, ?_⟩ <;> dsimp only at h ⊢ <;> (try split) <;> (try split at h) <;> omega
theorem wi_tells {size : Int} {sp : Spn} (hg : good5 sp) {x : Int} (h0 : 0 ≤ x) (h1 : x < size) : ((wi size sp).1 ≤ x ∧ x < (wi size sp).2) ↔ tells size x sp = true := by
  obtain ⟨a, b⟩ := sp
  cases a <;> cases b <;> simp only [good5] at hg <;> simp only [wi, tells, Bool.and_eq_true, decide_eq_true_eq] <;> (try split) <;> omega
theorem strT_ok {size : Int} (h0 : 0 ≤ size) {sps : List Spn} (hg : ∀ sp ∈ sps, good5 sp) :
    ((strT sps size).Pairwise fun u v => u.2 < v.1) ∧ (∀ u ∈ strT sps size, okp size u) ∧ ∀ x, 0 ≤ x → x < size → (cov (strT sps size) x ↔ sps = [] ∨ ∃ sp ∈ sps, tells size x sp = true) := by
  unfold strT
  by_cases e : sps = []
  · rw [if_pos e]
    obtain ⟨r1, r2, r3⟩ := mrg_ok (sz := size) (ps := [(0, size)]) fun p hp hlt => by
      rw [List.mem_singleton.mp hp] at hlt ⊢
      exact ⟨Int.le_refl _, hlt, Int.le_refl _⟩
    refine ⟨r1, r2, fun x x0 x1 => ?_⟩
    rw [r3]
    exact ⟨fun _ => .inl e, fun _ => ⟨(0, size), List.mem_singleton.mpr rfl, x0, x1⟩⟩
  · rw [if_neg e]
    obtain ⟨r1, r2, r3⟩ := mrg_ok (sz := size) (ps := sps.map (wi size)) fun p hp hlt => by
      obtain ⟨sp, hsp, rfl⟩ := List.mem_map.mp hp
      exact wi_ok h0 (hg sp hsp) hlt
    refine ⟨r1, r2, fun x x0 x1 => ?_⟩
    rw [r3]
    constructor
    · rintro ⟨u, hu, k⟩
      obtain ⟨sp, hsp, rfl⟩ := List.mem_map.mp hu
      exact .inr ⟨sp, hsp, (wi_tells (hg sp hsp) x0 x1).mp k⟩
    · rintro (k | ⟨sp, hsp, k⟩)
      · exact absurd k e
      · exact ⟨_, List.mem_map.mpr ⟨sp, hsp, rfl⟩, (wi_tells (hg sp hsp) x0 x1).mpr k⟩
end My
namespace My
open PySem PySem.Spec PyProof.Rows L2 TL
theorem paired_snoc {α β : Type} {R : α → β → Prop} : ∀ {xs : List α} {ys : List β} {y : β}, Paired R xs (ys ++ [y]) → ∃ xs' x, xs = xs' ++ [x] ∧ Paired R xs' ys ∧ R x y
  | _, [], _, .cons r .nil => ⟨[], _, rfl, .nil, r⟩
  | _, _ :: ys, y, .cons r t => by
    obtain ⟨xs', x, rfl, h, hr⟩ := paired_snoc (ys := ys) (y := y) t
    exact ⟨_ :: xs', x, rfl, .cons r h, hr⟩
theorem ixN_last (n : Nat) : ixN (n + 1) (-1) = some n := by
  unfold ixN
  rw [if_neg (by decide), if_pos (by omega)]
  congr 1
  omega
theorem set_last {α : Type} (xs : List α) (x v : α) : (xs ++ [x]).set xs.length v = xs ++ [v] := by
  rw [List.set_append_right _ _ (Nat.le_refl _), Nat.sub_self]
  rfl
section
variable {P : Program} {w : World} {K : PySem.W.Frag} {mg : Str → Option Value} {base : Heap}
def spWithin : Sp := fun vs H Q _ => ∃ (v : V) (sp : Spn) (size : Int), vs = [v, .int size] ∧ PS2 H v sp ∧ good5 sp ∧ ∀ p, H p = none → Q (.ref p) (upd H p (.tup [.int (wi size sp).1, .int (wi size sp).2]))
theorem ok_within (T : Txt K mg) : FnOk P w K mg base CX0 1 T.f_within T.fd_within ["span", "size"] spWithin := by
  refine T.d_within.F.ok sc_within (fun vs H Q E h => ?_) (fun cdv A outer s H vs Q E hr h => ?_)
  · obtain ⟨v, sp, size, rfl, _⟩ := h
    rfl
  · obtain ⟨v, sp, size, rfl, ⟨t, rfl, ht⟩, hg, q⟩ := h
    refine ⟨_, (pss_cons (ps_asg (pv 0) (pg_tup rfl (pgs_cons (pg_name (i := 2) sc_within.nd rfl (.inl rfl)) (pgs_cons (pg_name (i := 3) sc_within.nd rfl (.inl rfl)) pgs_nil))))
      (pss_cons (ps_if (pt_cmpR op_isN (pv 2) pe_non (nomark _))
      (pss_one (ps_ret (pe_tup (pa_cons (pe_callB (call_max2 rfl) (by rfl) T.m_max (by decide +kernel) (pa_cons pe_int (pa_cons (pe_op op_sub (pv 1) (pv 3)) pa_nil))) (pa_cons (pv 1) pa_nil)))))
      pss_nil)
      (pss_cons (ps_if (pt_cmpR op_isN (pv 3) pe_non (nomark _))
      (pss_one (ps_ret (pe_tup (pa_cons (pv 2) (pa_cons (pv 1) pa_nil)))))
      pss_nil)
      (pss_one (ps_ret (pe_tup (pa_cons (pv 2) (pa_cons (pe_callB (call_min2 rfl) (by rfl) T.m_min (by decide +kernel) (pa_cons (pv 3) (pa_cons (pv 1) pa_nil))) pa_nil)))))))), ?_⟩
    refine ⟨_, rfl, t, _, rfl, SqT.of ht, rfl, _, _, rfl, _, _, rfl, rfl, ?_⟩
    obtain ⟨a, b⟩ := sp
    cases a with
    | none =>
      cases b with
      | none => exact hg.elim
      | some b => exact ⟨.non, rfl, rfl, true, rfl, .int size, rfl, .int b, rfl, size, b, rfl, rfl, 0, size - b, rfl, .int size, rfl, (by show 2 ≤ sizeLine; decide), fun p hp => q p hp⟩
    | some a =>
      cases b with
      | none => exact ⟨.int a, rfl, rfl, false, rfl, .non, rfl, rfl, true, rfl, .int a, rfl, .int size, rfl, (by show 2 ≤ sizeLine; decide), fun p hp => q p hp⟩
      | some b => exact ⟨.int a, rfl, rfl, false, rfl, .int b, rfl, rfl, false, rfl, .int a, rfl, .int b, rfl, .int size, rfl, b, size, rfl, (by show 2 ≤ sizeLine; decide), fun p hp => q p hp⟩
def spMerged : Sp := fun vs H Q _ => ∃ (a : Addr) (xs : List V) (ps : List (Int × Int)), vs = [.ref a] ∧ H a = some (.lst xs) ∧ Paired (PS2 H) xs (ps.map iv) ∧ ps.length ≤ 1000 ∧
  ∀ p ys H', Same H H' → H' p = some (.lst ys) → Paired (PS2 H') ys ((mrg ps).map iv) → Q (.ref p) H'
theorem ok_merged (T : Txt K mg) : FnOk P w K mg base CX0 1 T.f_merged T.fd_merged ["pairs"] spMerged := by
  refine T.d_merged.F.ok sc_merged (fun vs H Q E h => ?_) (fun cdv A outer s H vs Q E hr h => ?_)
  · obtain ⟨a, xs, ps, rfl, _⟩ := h
    rfl
  · obtain ⟨a, xs, ps, rfl, ha, hx, hlen, q⟩ := h
    refine ⟨_, (pss_cons (ps_set (i := 1) sc_merged.nd rfl (.inl rfl) (pe_lst pa_nil))
      (pss_cons (ps_for PassesOwn.never rfl (pi_list (pe_callB (cr_sortB (fun b : Addr × Int × Int => V.ref b.1) (fun b => .tuple [.int b.2.1, .int b.2.2]) hr.units) (by rfl) T.m_sorted (by decide +kernel) (pa_cons (pe_lc (own := [("pair", 4)]) (g := gName 4) (tt := tTest (tOp (rI0 fun i j => .bl (decide (i < j))) (tOp (rIxT K) (tVar 4) (tC (.int 0))) (tOp (rIxT K) (tVar 4) (tC (.int 1))))) (by rfl) sc_merged.nd (pi_list (pv 0)) (blkOk_by (own := [("pair", 4)]) (N := ["pairs", "found", "start", "stop", "pair"]) (sc := defScope s_merged) (by decide +kernel)) (fun _ _ _ _ _ => (pg_name (i := 4) sc_merged.nd rfl (Or.inl rfl))) (fun _ _ _ _ _ => (pts_one (pt_cmpR op_lt (pe_ix ix_tup (pv 4) pe_int (fun _ _ => rfl)) (pe_ix ix_tup (pv 4) pe_int (fun _ _ => rfl)) (nomark _)))) (fun _ _ _ _ _ => (pv 4))) pa_nil))) (pg_tup rfl (pgs_cons (pg_name (i := 2) sc_merged.nd rfl (.inl rfl)) (pgs_cons (pg_name (i := 3) sc_merged.nd rfl (.inl rfl)) pgs_nil)))
      (pss_one (ps_if (PW.pt (pw_and (pt_truth (pv 1) (by intro _; rfl)) (pw_and1 (pt_cmpR op_le (pv 2) (pe_ix ix_tup (pe_ix ix_list (pv 1) (pe_un un_neg pe_int) (fun _ _ => rfl)) pe_int (fun _ _ => rfl)) (nomark _)))))
      (pss_one (ps_asg (pe_tup (pa_cons (pe_ix ix_tup (pe_ix ix_list (pv 1) (pe_un un_neg pe_int) (fun _ _ => rfl)) pe_int (fun _ _ => rfl)) (pa_cons (pe_callB (call_max2 rfl) (by rfl) T.m_max (by decide +kernel) (pa_cons (pe_ix ix_tup (pe_ix ix_list (pv 1) (pe_un un_neg pe_int) (fun _ _ => rfl)) pe_int (fun _ _ => rfl)) (pa_cons (pv 3) pa_nil))) pa_nil))) (pg_sub (pv 1) (pe_un un_neg pe_int) set_list)))
      (pss_one (ps_expr (pe_bm PySem.F.plainAttrs_list PySem.F.slot_list_append PySem.F.type_list_append mt_append (pv 1) (pa_cons (pe_tup (pa_cons (pv 2) (pa_cons (pv 3) pa_nil))) pa_nil)))))))
      (pss_one (ps_ret (pv 1))))), ?_⟩
    have lx : xs.length = ps.length := (Paired.length hx).trans (List.length_map ..)
    refine ⟨Nat.zero_le _, fun L hL => ?_⟩
    have sL := same_upd (o := .lst []) hL
    refine ⟨.ref a, rfl, a, rfl, ⟨_, SqL.of (sL _ _ ha)⟩, fun D hD => ?_⟩
    refine lc_list (K := K) (a := a) (xs := xs) (fun i H' => Same (upd H L (.lst [])) H' ∧ ∃ bs : List (Addr × Int × Int), H' D = some (.lst (bs.map fun b => V.ref b.1)) ∧ bs.map (·.2) = (ps.take i).filter (fun p => decide (p.1 < p.2)) ∧ ∀ b ∈ bs, H b.1 = some (.tup [.int b.2.1, .int b.2.2]))
      ⟨same_upd hD, [], upd_same, rfl, fun _ h => nomatch h⟩ (fun i H' _ pv => SqL.of (pv.1 _ _ (sL _ _ ha))) ?_ ?_
    · rintro i x H1 hi ⟨sm, bs, eD, eb, hb⟩
      obtain ⟨sp, hsp, t, rfl, ht⟩ := paired_at hx hi
      rw [List.getElem?_map] at hsp
      cases hk : ps[i]? with
      | none =>
        rw [hk] at hsp
        cases hsp
      | some p =>
        rw [hk] at hsp
        cases hsp
        have hil : i < ps.length := (List.getElem?_eq_some_iff.mp hk).1
        have ht1 := sm _ _ (sL _ _ ht)
        have i0 : atI [V.int p.1, V.int p.2] 0 = some (.int p.1) := rfl
        have i1 : atI [V.int p.1, V.int p.2] 1 = some (.int p.2) := rfl
        have hf : (ps.take (i + 1)).filter (fun p => decide (p.1 < p.2)) = (ps.take i).filter (fun p => decide (p.1 < p.2)) ++ (if decide (p.1 < p.2) = true then [p] else []) := by
          have := filter_take (fun p : Int × Int => decide (p.1 < p.2)) id hk
          simpa using this
        refine ⟨rfl, .ref t, rfl, t, _, 0, _, rfl, rfl, SqT.of ht1, i0, .ref t, rfl, t, _, 1, _, rfl, rfl, SqT.of ht1, i1, p.1, p.2, rfl, rfl, _, rfl, ite2 (fun e => ?_) (fun e => ?_)⟩
        · rw [if_pos e] at hf
          refine ⟨.ref t, rfl, _, eD, ?_, same_mut sm hD, bs ++ [(t, p)], by rw [upd_same, List.map_append]; rfl, by rw [List.map_append, hf, eb]; rfl, fun b hb' => ?_⟩
          · rw [List.length_map]
            have h1 : (bs.map (·.2)).length = ((ps.take i).filter (fun p => decide (p.1 < p.2))).length := by rw [eb]
            have h2 := List.length_filter_le (fun p : Int × Int => decide (p.1 < p.2)) (ps.take i)
            rw [List.length_map] at h1
            rw [List.length_take] at h2
            exact szlt (by omega)
          · rcases List.mem_append.mp hb' with h | h
            · exact hb b h
            · rw [List.mem_singleton.mp h]
              exact ht
        · rw [if_neg e, List.append_nil] at hf
          exact ⟨sm, bs, eD, by rw [hf]; exact eb, hb⟩
    · rintro H1 ⟨sm, bs, eD, eb, hb⟩
      rw [lx, List.take_length] at eb
      have sH1 := sL.trans sm
      have hb1 : ∀ b ∈ bs, H1 b.1 = some (.tup [.int b.2.1, .int b.2.2]) := fun b hb' => sH1 _ _ (hb b hb')
      refine ⟨D, bs, rfl, SqL.of eD, fun b hb' => .tup (SqT.of (hb1 b hb')) (.cons (.int _) (.cons (.int _) .nil)), PySem.W.AllAlike.of (fun b b' => by simp [PySem.W.alike, PySem.W.alikeAll]), PySem.W.Sortable.tuples (fun b => ⟨_, _, rfl⟩), fun b _ => by simp [PyData.depth, PyData.depthAll], fun p hp => ?_⟩
      have es := sortB_srt bs
      have hmem := (sortB_perm (fun b : Addr × Int × Int => .tuple [.int b.2.1, .int b.2.2]) bs)
      have hlb : bs.length ≤ 1000 := by
        have h1 : (bs.map (·.2)).length = (ps.filter (fun p => decide (p.1 < p.2))).length := by rw [eb]
        have h2 := List.length_filter_le (fun p : Int × Int => decide (p.1 < p.2)) ps
        rw [List.length_map] at h1
        omega
      generalize hl : sortB (fun b : Addr × Int × Int => .tuple [.int b.2.1, .int b.2.2]) bs = l at *
      have sp := same_upd (o := .lst (l.map fun b => V.ref b.1)) hp
      have npL : p ≠ L := fun z => by
        have := sm _ _ (show (upd H L (.lst [])) L = some (.lst []) from upd_same)
        rw [← z, hp] at this
        cases this
      refine ⟨p, rfl, ⟨_, SqL.of upd_same⟩, for_list (K := K) (a := p) (xs := l.map fun b => V.ref b.1) (fun i σ H' => Same H H' ∧ H' p = some (.lst (l.map fun b => V.ref b.1)) ∧ (∃ ys, H' L = some (.lst ys) ∧ Paired (PS2 H') ys ((((l.map (·.2)).take i).foldl stepR []).reverse.map iv) ∧ ys.length ≤ i) ∧ ∃ y2 y3, σ = [some (.ref a), some (.ref L), y2, y3, none])
        ⟨sH1.trans sp, upd_same, ⟨[], sp _ _ (sm _ _ upd_same), .nil, Nat.le_refl _⟩, none, none, rfl⟩ (fun i σ H' _ pv => SqL.of pv.2.1) ?_ ?_⟩
      · rintro i x σ H2 hi ⟨s2, ep, ⟨ys, eL, hy, ly⟩, y2, y3, rfl⟩
        rw [List.getElem?_map] at hi
        cases hk : l[i]? with
        | none =>
          rw [hk] at hi
          cases hi
        | some b =>
          rw [hk] at hi
          cases hi
          have hil : i < l.length := (List.getElem?_eq_some_iff.mp hk).1
          have hll : l.length = bs.length := hmem.length_eq
          have hbm := s2 _ _ (hb b (hmem.mem_iff.mp (List.mem_of_getElem? hk)))
          have hn : ((l.map (·.2)).take (i + 1)).foldl stepR [] = stepR (((l.map (·.2)).take i).foldl stepR []) b.2 := by
            rw [List.take_add_one, List.getElem?_map, hk, List.foldl_append]
            rfl
          refine ⟨b.1, _, rfl, SqT.of hbm, rfl, _, _, rfl, _, _, rfl, rfl, ?_⟩
          cases hacc : ((l.map (·.2)).take i).foldl stepR [] with
          | nil =>
            rw [hacc] at hy hn
            cases hy
            refine ⟨.ref L, rfl, false, .inl ⟨[], SqL.of eL, rfl⟩, ?_⟩
            refine ⟨.ref L, rfl, .inl ⟨rfl, _, SqL.of eL⟩, .int b.2.1, rfl, .int b.2.2, rfl, (by show 2 ≤ sizeLine; decide), fun p2 h2 => ?_⟩
            have sp2 := same_upd (o := .tup [.int b.2.1, .int b.2.2]) h2
            have eL2 := sp2 _ _ eL
            refine ⟨L, _, _, rfl, rfl, eL2, (by show 0 < sizeLine; decide), same_mut (s2.trans sp2) hL, by rw [upd_ne npL]; exact sp2 _ _ ep, ⟨_, upd_same, ?_, by show 1 ≤ _; omega⟩, _, _, rfl⟩
            rw [hn]
            exact .cons (PS2.upd eL2 (fun _ z => by cases z) ⟨p2, rfl, upd_same⟩) .nil
          | cons qq r =>
            rw [hacc] at hy hn
            rw [List.reverse_cons, List.map_append] at hy
            obtain ⟨ys', v, rfl, hy', t, rfl, ht⟩ := paired_snoc hy
            have i0 : atI [V.int qq.1, V.int qq.2] 0 = some (.int qq.1) := rfl
            have i1 : atI [V.int qq.1, V.int qq.2] 1 = some (.int qq.2) := rfl
            refine ⟨.ref L, rfl, true, .inl ⟨_, SqL.of eL, by cases ys' <;> rfl⟩, ?_⟩
            refine ⟨.int b.2.1, rfl, .ref L, rfl, 1, rfl, L, _, -1, _, rfl, rfl, SqL.of eL, atI_last _ _, t, _, 1, _, rfl, rfl, SqT.of ht, i1, b.2.1, qq.2, rfl, rfl, _, rfl, ite2 (fun e => ?_) (fun e => ?_)⟩
            · have e' : b.2.1 ≤ qq.2 := of_decide_eq_true e
              rw [stepR_cons, if_pos e'] at hn
              refine ⟨.ref L, rfl, 1, rfl, L, _, -1, _, rfl, rfl, SqL.of eL, atI_last _ _, t, _, 0, _, rfl, rfl, SqT.of ht, i0, .ref L, rfl, 1, rfl, L, _, -1, _, rfl, rfl, SqL.of eL, atI_last _ _, t, _, 1, _, rfl, rfl, SqT.of ht, i1, .int b.2.2, rfl, qq.2, b.2.2, rfl, (by show 2 ≤ sizeLine; decide), fun p2 h2 => ?_⟩
              have sp2 := same_upd (o := .tup [.int qq.1, .int (if b.2.2 > qq.2 then b.2.2 else qq.2)]) h2
              have eL2 := sp2 _ _ eL
              refine ⟨.ref L, rfl, 1, rfl, L, _, -1, ys'.length, rfl, rfl, eL2, by rw [List.length_append]; exact ixN_last _, same_mut (s2.trans sp2) hL, by rw [upd_ne npL]; exact sp2 _ _ ep, ⟨_, upd_same, ?_, by rw [List.length_set]; omega⟩, _, _, rfl⟩
              rw [hn, set_last, List.reverse_cons, List.map_append]
              exact ps2s_upd eL2 (fun _ z => by cases z) (paired_app (ps2s_mono sp2 hy') (.cons ⟨p2, rfl, upd_same⟩ .nil))
            · have e' : ¬ b.2.1 ≤ qq.2 := fun z => e (decide_eq_true z)
              rw [stepR_cons, if_neg e'] at hn
              refine ⟨.ref L, rfl, .inl ⟨rfl, _, SqL.of eL⟩, .int b.2.1, rfl, .int b.2.2, rfl, (by show 2 ≤ sizeLine; decide), fun p2 h2 => ?_⟩
              have sp2 := same_upd (o := .tup [.int b.2.1, .int b.2.2]) h2
              have eL2 := sp2 _ _ eL
              refine ⟨L, _, _, rfl, rfl, eL2, szlt (by omega), same_mut (s2.trans sp2) hL, by rw [upd_ne npL]; exact sp2 _ _ ep, ⟨_, upd_same, ?_, by rw [List.length_append]; show _ + 1 ≤ _; omega⟩, _, _, rfl⟩
              rw [hn, List.reverse_cons, List.map_append]
              refine ps2s_upd eL2 (fun _ z => by cases z) (paired_app (ps2s_mono sp2 ?_) (.cons ⟨p2, rfl, upd_same⟩ .nil))
              rw [List.reverse_cons, List.map_append]
              exact paired_app hy' (.cons ⟨t, rfl, ht⟩ .nil)
      · rintro σ H2 ⟨s2, ep, ⟨ys, eL, hy, ly⟩, y2, y3, rfl⟩
        rw [List.length_map, List.take_of_length_le (by rw [List.length_map]; exact Nat.le_refl _), es, eb] at hy
        exact ⟨.ref L, rfl, q L ys H2 s2 eL hy⟩
end
end My
namespace My
open PySem PySem.Spec PyProof.Rows L2 TL
section
variable {P : Program} {w : World} {K : PySem.W.Frag} {mg : Str → Option Value} {base : Heap}
def spStr : Sp := fun vs H Q _ => ∃ (a : Addr) (xs : List V) (sps : List Spn) (size : Int), vs = [.ref a, .int size] ∧ H a = some (.lst xs) ∧ Paired (PS2 H) xs sps ∧ (∀ sp ∈ sps, good5 sp) ∧ sps.length ≤ 500 ∧
  ∀ p ys H', Same H H' → H' p = some (.lst ys) → Paired (PS2 H') ys ((strT sps size).map iv) → Q (.ref p) H'
def spStrT : Sp := fun vs H Q _ => ∃ (a : Addr) (xs : List V) (sps : List Spn) (size : Int), vs = [.ref a, .int size] ∧ H a = some (.tup xs) ∧ Paired (PS2 H) xs sps ∧ (∀ sp ∈ sps, good5 sp) ∧ sps.length ≤ 500 ∧
  ∀ p ys H', Same H H' → H' p = some (.lst ys) → Paired (PS2 H') ys ((strT sps size).map iv) → Q (.ref p) H'
theorem ok_stretches (T : Txt K mg) : FnOk P w K mg base CX0 2 T.f_stretches T.fd_stretches ["spans", "size"] spStr := by
  refine T.d_stretches.F.ok sc_stretches (fun vs H Q E h => ?_) (fun cdv A outer s H vs Q E hr h => ?_)
  · obtain ⟨a, xs, sps, size, rfl, _⟩ := h
    rfl
  · obtain ⟨a, xs, sps, size, rfl, ha, hx, hg, hl, q⟩ := h
    refine ⟨_, (pss_cons (ps_if (pt_cmpR op_eq (pe_callB call_len_seq (by rfl) T.m_len (by decide +kernel) (pa_cons (pv 0) pa_nil)) pe_int (nomark _))
      (pss_one (ps_ret (pe_call (ok_merged T) (hr.mono (by decide)) (by rfl) T.d_merged.g T.d_merged.F.kp T.d_merged.b .nil pass0 (pa_cons (pe_lst (pa_cons (pe_tup (pa_cons pe_int (pa_cons (pv 1) pa_nil))) pa_nil)) pa_nil))))
      pss_nil)
      (pss_one (ps_ret (pe_call (ok_merged T) (hr.mono (by decide)) (by rfl) T.d_merged.g T.d_merged.F.kp T.d_merged.b .nil pass0 (pa_cons (pe_lc (own := [("span", 2)]) (g := gName 2) (tt := tYes) (by rfl) sc_stretches.nd (pi_list (pv 0)) (blkOk_by (own := [("span", 2)]) (N := ["spans", "size", "span"]) (sc := defScope s_stretches) (by decide +kernel)) (fun _ _ _ _ _ => (pg_name (i := 2) sc_stretches.nd rfl (Or.inl rfl))) (fun _ _ _ _ _ => pts_nil) (fun _ _ _ _ _ => (pe_call (ok_within T) (hr.mono (by decide)) (by rfl) T.d_within.g T.d_within.F.kp T.d_within.b .nil pass0 (pa_cons (pv 2) (pa_cons (pv 1) pa_nil))))) pa_nil))))), ?_⟩
    have lx : xs.length = sps.length := Paired.length hx
    refine ⟨.ref a, rfl, a, _, rfl, .inl (SqL.of ha), rfl, _, rfl, ite2 (fun e => ?_) (fun e => ?_)⟩
    · have e0 : ((xs.length : Nat) : Int) = 0 := V.int.inj (of_decide_eq_true e)
      have en : sps = [] := List.eq_nil_of_length_eq_zero (by omega)
      unfold strT at q
      rw [if_pos en] at q
      refine ⟨.int size, rfl, (by show 2 ≤ sizeLine; decide), fun t ht => ⟨(by show 1 ≤ sizeLine; decide), fun p hp => ?_⟩⟩
      have s1 := same_upd (o := .tup [.int 0, .int size]) ht
      have s2 := same_upd (o := .lst [.ref t]) hp
      exact ⟨p, [.ref t], [(0, size)], rfl, upd_same, .cons ⟨t, rfl, s2 _ _ upd_same⟩ .nil, (by show 1 ≤ 1000; decide), fun p2 ys H2 sm h2 hy => q p2 ys H2 ((s1.trans s2).trans sm) h2 hy⟩
    · have en : sps ≠ [] := fun z => e (decide_eq_true (by rw [z] at lx; rw [lx]; rfl))
      unfold strT at q
      rw [if_neg en] at q
      refine ⟨.ref a, rfl, a, rfl, ⟨_, SqL.of ha⟩, fun D hD => ?_⟩
      refine lc_list (K := K) (a := a) (xs := xs) (fun i H' => Same H H' ∧ ∃ ys, H' D = some (.lst ys) ∧ Paired (PS2 H') ys (((sps.take i).map (wi size)).map iv)) ⟨same_upd hD, [], upd_same, .nil⟩ (fun i H' _ pv => SqL.of (pv.1 _ _ ha)) ?_ ?_
      · rintro i x H1 hi ⟨sm, ys, eD, hy⟩
        obtain ⟨sp, hsp, hp⟩ := paired_at hx hi
        have hil : i < sps.length := (List.getElem?_eq_some_iff.mp hsp).1
        refine ⟨rfl, x, rfl, .int size, rfl, x, sp, size, rfl, hp.mono sm, hg sp (List.mem_of_getElem? hsp), fun p hp2 => ?_⟩
        have s2 := same_upd (o := .tup [.int (wi size sp).1, .int (wi size sp).2]) hp2
        have eD2 := s2 _ _ eD
        have hyl := Paired.length hy
        rw [List.length_map, List.length_map, List.length_take] at hyl
        refine ⟨ys, eD2, szlt (by omega), same_mut (sm.trans s2) hD, ys ++ [.ref p], upd_same, ?_⟩
        rw [take_map (wi size) hsp, List.map_append]
        exact ps2s_upd eD2 (fun _ z => by cases z) (paired_app (ps2s_mono s2 hy) (.cons ⟨p, rfl, upd_same⟩ .nil))
      · rintro H1 ⟨sm, ys, eD, hy⟩
        rw [lx, List.take_length] at hy
        exact ⟨D, ys, sps.map (wi size), rfl, eD, hy, by rw [List.length_map]; omega, fun p2 ys2 H2 s2 h2 hy2 => q p2 ys2 H2 (sm.trans s2) h2 hy2⟩
theorem ok_stretchesT (T : Txt K mg) : FnOk P w K mg base CX0 2 T.f_stretches T.fd_stretches ["spans", "size"] spStrT := by
  refine T.d_stretches.F.ok sc_stretches (fun vs H Q E h => ?_) (fun cdv A outer s H vs Q E hr h => ?_)
  · obtain ⟨a, xs, sps, size, rfl, _⟩ := h
    rfl
  · obtain ⟨a, xs, sps, size, rfl, ha, hx, hg, hl, q⟩ := h
    refine ⟨_, (pss_cons (ps_if (pt_cmpR op_eq (pe_callB call_len_seq (by rfl) T.m_len (by decide +kernel) (pa_cons (pv 0) pa_nil)) pe_int (nomark _))
      (pss_one (ps_ret (pe_call (ok_merged T) (hr.mono (by decide)) (by rfl) T.d_merged.g T.d_merged.F.kp T.d_merged.b .nil pass0 (pa_cons (pe_lst (pa_cons (pe_tup (pa_cons pe_int (pa_cons (pv 1) pa_nil))) pa_nil)) pa_nil))))
      pss_nil)
      (pss_one (ps_ret (pe_call (ok_merged T) (hr.mono (by decide)) (by rfl) T.d_merged.g T.d_merged.F.kp T.d_merged.b .nil pass0 (pa_cons (pe_lc (own := [("span", 2)]) (g := gName 2) (tt := tYes) (by rfl) sc_stretches.nd (pi_tup (pv 0)) (blkOk_by (own := [("span", 2)]) (N := ["spans", "size", "span"]) (sc := defScope s_stretches) (by decide +kernel)) (fun _ _ _ _ _ => (pg_name (i := 2) sc_stretches.nd rfl (Or.inl rfl))) (fun _ _ _ _ _ => pts_nil) (fun _ _ _ _ _ => (pe_call (ok_within T) (hr.mono (by decide)) (by rfl) T.d_within.g T.d_within.F.kp T.d_within.b .nil pass0 (pa_cons (pv 2) (pa_cons (pv 1) pa_nil))))) pa_nil))))), ?_⟩
    have lx : xs.length = sps.length := Paired.length hx
    refine ⟨.ref a, rfl, a, _, rfl, .inr (SqT.of ha), rfl, _, rfl, ite2 (fun e => ?_) (fun e => ?_)⟩
    · have e0 : ((xs.length : Nat) : Int) = 0 := V.int.inj (of_decide_eq_true e)
      have en : sps = [] := List.eq_nil_of_length_eq_zero (by omega)
      unfold strT at q
      rw [if_pos en] at q
      refine ⟨.int size, rfl, (by show 2 ≤ sizeLine; decide), fun t ht => ⟨(by show 1 ≤ sizeLine; decide), fun p hp => ?_⟩⟩
      have s1 := same_upd (o := .tup [.int 0, .int size]) ht
      have s2 := same_upd (o := .lst [.ref t]) hp
      exact ⟨p, [.ref t], [(0, size)], rfl, upd_same, .cons ⟨t, rfl, s2 _ _ upd_same⟩ .nil, (by show 1 ≤ 1000; decide), fun p2 ys H2 sm h2 hy => q p2 ys H2 ((s1.trans s2).trans sm) h2 hy⟩
    · have en : sps ≠ [] := fun z => e (decide_eq_true (by rw [z] at lx; rw [lx]; rfl))
      unfold strT at q
      rw [if_neg en] at q
      refine ⟨.ref a, rfl, a, rfl, ⟨_, SqT.of ha⟩, fun D hD => ?_⟩
      refine lc_tup (K := K) (a := a) (xs := xs) (fun i H' => Same H H' ∧ ∃ ys, H' D = some (.lst ys) ∧ Paired (PS2 H') ys (((sps.take i).map (wi size)).map iv)) ⟨same_upd hD, [], upd_same, .nil⟩ (fun i H' _ pv => SqT.of (pv.1 _ _ ha)) ?_ ?_
      · rintro i x H1 hi ⟨sm, ys, eD, hy⟩
        obtain ⟨sp, hsp, hp⟩ := paired_at hx hi
        have hil : i < sps.length := (List.getElem?_eq_some_iff.mp hsp).1
        refine ⟨rfl, x, rfl, .int size, rfl, x, sp, size, rfl, hp.mono sm, hg sp (List.mem_of_getElem? hsp), fun p hp2 => ?_⟩
        have s2 := same_upd (o := .tup [.int (wi size sp).1, .int (wi size sp).2]) hp2
        have eD2 := s2 _ _ eD
        have hyl := Paired.length hy
        rw [List.length_map, List.length_map, List.length_take] at hyl
        refine ⟨ys, eD2, szlt (by omega), same_mut (sm.trans s2) hD, ys ++ [.ref p], upd_same, ?_⟩
        rw [take_map (wi size) hsp, List.map_append]
        exact ps2s_upd eD2 (fun _ z => by cases z) (paired_app (ps2s_mono s2 hy) (.cons ⟨p, rfl, upd_same⟩ .nil))
      · rintro H1 ⟨sm, ys, eD, hy⟩
        rw [lx, List.take_length] at hy
        exact ⟨D, ys, sps.map (wi size), rfl, eD, hy, by rw [List.length_map]; omega, fun p2 ys2 H2 s2 h2 hy2 => q p2 ys2 H2 (sm.trans s2) h2 hy2⟩
theorem ok_law_well (T : Txt K mg) : FnOk P w K mg base CX0 1 T.f_law_well T.fd_law_well ["_law_cell"] spWell := by
  refine T.d_law_well.F.ok sc_law_well (fun vs H Q E h => ?_) (fun cdv A outer s H vs Q E hr h => ?_)
  · obtain ⟨n, rfl, _⟩ := h
    rfl
  · obtain ⟨n, rfl, q⟩ := h
    refine ⟨_, (pss_one (ps_ret (pe_lst (pa_cons (pe_op op_mul (pv 0) (pe_callTy call_int1 (by rfl) T.m_int (by decide +kernel) (pa_cons (pe_cmpR op_ge (pv 0) (pe_op op_pow pe_int pe_int) (nomark _)) pa_nil))) (pa_cons (pe_op op_mod (pv 0) pe_int) (pa_cons pe_int pa_nil)))))), ?_⟩
    refine ⟨.int n, rfl, .int n, rfl, 10, 18, rfl, rfl, ⟨by decide, by decide, by decide⟩, n, _, rfl, rfl, .inr ⟨_, rfl, n, _, rfl, rfl, ?_, .int n, rfl, n, _, rfl, rfl, (show (0 : Int) < 2147483647 by decide), ?_⟩⟩
    · refine .inr ?_
      split <;> decide
    · exact ⟨(by show 3 ≤ sizeLine; decide), fun p hp => q p _ _ _ hp⟩
theorem ok_law_draw (T : Txt K mg) : FnOk P w K mg base CX0 1 T.f_law_draw T.fd_law_draw ["_law_well_here", "_law_many"] spDraw := by
  refine T.d_law_draw.F.ok sc_law_draw (fun vs H Q E h => ?_) (fun cdv A outer s H vs Q E hr h => ?_)
  · obtain ⟨W, m, rfl, _⟩ := h
    rfl
  · obtain ⟨W, m, rfl, m0, m1, hI, q⟩ := h
    obtain ⟨a, b, c, hW⟩ := id hI
    have i0 : atI [V.int a, .int b, .int c] 0 = some (.int a) := rfl
    have i1 : atI [V.int a, .int b, .int c] 1 = some (.int b) := rfl
    have i2 : atI [V.int a, .int b, .int c] 2 = some (.int c) := rfl
    refine ⟨_, (pss_cons (ps_if (pt_cmpR op_gt (pe_ix ix_list (pv 0) pe_int (fun _ _ => rfl)) pe_int (nomark _))
      (pss_cons (ps_set (i := 2) sc_law_draw.nd rfl (.inl rfl) (pe_op op_mod (pe_ix ix_list (pv 0) pe_int (fun _ _ => rfl)) (pv 1)))
      (pss_cons (ps_asg (pe_op op_fdiv (pe_ix ix_list (pv 0) pe_int (fun _ _ => rfl)) (pv 1)) (pg_sub (pv 0) pe_int set_list))
      (pss_one (ps_ret (pv 2)))))
      pss_nil)
      (pss_cons (ps_asg (pe_op op_add (pe_ix ix_list (pv 0) pe_int (fun _ _ => rfl)) pe_int) (pg_sub (pv 0) pe_int set_list))
      (pss_cons (ps_set (i := 3) sc_law_draw.nd rfl (.inl rfl) (pe_op op_mod (pe_op op_mul (pe_op op_add (pe_op op_add (pe_ix ix_list (pv 0) pe_int (fun _ _ => rfl)) (pe_op op_mul pe_int (pe_ix ix_list (pv 0) pe_int (fun _ _ => rfl)))) pe_int) pe_int) pe_int))
      (pss_cons (ps_set (i := 3) sc_law_draw.nd rfl (.inl rfl) (pe_op op_mod (pe_op op_mul (pv 3) (pe_op op_add (pe_op op_fdiv (pv 3) pe_int) pe_int)) pe_int))
      (pss_one (ps_ret (pe_op op_mod (pe_op op_mod (pe_op op_mul (pv 3) (pe_op op_add (pe_op op_fdiv (pv 3) pe_int) pe_int)) pe_int) (pv 1)))))))), ?_⟩
    refine ⟨.ref W, rfl, W, _, 0, _, rfl, rfl, SqL.of hW, i0, a, 0, rfl, rfl, _, rfl, ite2 (fun e => ?_) (fun e => ?_)⟩
    · refine ⟨.ref W, rfl, W, _, 0, _, rfl, rfl, SqL.of hW, i0, .int m, rfl, a, m, rfl, rfl, m0, ?_⟩
      refine ⟨.ref W, rfl, W, _, 0, _, rfl, rfl, SqL.of hW, i0, .int m, rfl, a, m, rfl, rfl, ⟨m0, m1⟩, .ref W, rfl, W, _, 0, 0, rfl, rfl, hW, rfl, ?_⟩
      exact ⟨_, rfl, q _ _ (mod_lt m0).1 (mod_lt m0).2 ((Wx.refl hI).set _ _ _)⟩
    · refine ⟨.ref W, rfl, W, _, 2, _, rfl, rfl, SqL.of hW, i2, c, 1, rfl, rfl, .ref W, rfl, W, _, 2, 2, rfl, rfl, hW, rfl, ?_⟩
      have hW' : (upd H W (W3 a b (c + 1))) W = some (W3 a b (c + 1)) := upd_same
      have j1 : atI [V.int a, .int b, .int (c + 1)] 1 = some (.int b) := rfl
      have j2 : atI [V.int a, .int b, .int (c + 1)] 2 = some (.int (c + 1)) := rfl
      refine ⟨.ref W, rfl, W, _, 1, _, rfl, rfl, SqL.of hW', j1, .ref W, rfl, W, _, 2, _, rfl, rfl, SqL.of hW', j2, 7919, _, rfl, rfl, .inl (by decide), b, _, rfl, rfl, _, 1, rfl, rfl, _, 48271, rfl, rfl, .inr (by decide), _, 2147483647, rfl, rfl, (show (0 : Int) < 2147483647 by decide), ?_⟩
      refine ⟨_, rfl, _, rfl, _, 1009, rfl, rfl, ⟨by decide, by decide⟩, _, 69621, rfl, rfl, _, _, rfl, rfl, cmul_of (mod_lt (by decide)), _, 2147483647, rfl, rfl, (show (0 : Int) < 2147483647 by decide), ?_⟩
      refine ⟨_, rfl, _, rfl, _, 2003, rfl, rfl, ⟨by decide, by decide⟩, _, 40692, rfl, rfl, _, _, rfl, rfl, cmul_of (mod_lt (by decide)), _, 2147483399, rfl, rfl, (show (0 : Int) < 2147483399 by decide), .int m, rfl, _, m, rfl, rfl, m0, ?_⟩
      exact q _ _ (mod_lt m0).1 (mod_lt m0).2 ((Wx.refl hI).set _ _ _)

def spGreat : Sp := fun vs H Q _ => ∃ (W : Addr), vs = [.ref W] ∧ IsW H W ∧ ∀ n H', 0 ≤ n → n < 10 ^ 56 → Wx W H H' → Q (.int n) H'
theorem ok_law_great (T : Txt K mg) : FnOk P w K mg base CX0 2 T.f_law_great T.fd_law_great ["_law_well_here"] spGreat := by
  refine T.d_law_great.F.ok sc_law_great (fun vs H Q E h => ?_) (fun cdv A outer s H vs Q E hr h => ?_)
  · obtain ⟨W, rfl, _⟩ := h
    rfl
  · obtain ⟨W, rfl, hI, q⟩ := h
    refine ⟨_, (pss_cons (ps_set (i := 1) sc_law_great.nd rfl (.inl rfl) pe_int)
      (pss_cons (ps_for PassesOwn.never rfl (pi_range1 (by rfl) T.m_range (pa_cons pe_int pa_nil)) (pg_name (i := 2) sc_law_great.nd rfl (.inl rfl))
      (pss_one (ps_set (i := 1) sc_law_great.nd rfl (.inl rfl) (pe_op op_add (pe_op op_mul (pv 1) (pe_op op_pow pe_int pe_int)) (pe_call (ok_law_draw T) (hr.mono (by decide)) (by rfl) T.d_law_draw.g T.d_law_draw.F.kp T.d_law_draw.b .nil pass0 (pa_cons (pv 0) (pa_cons (pe_op op_pow pe_int pe_int) pa_nil)))))))
      (pss_one (ps_ret (pv 1))))), ?_⟩
    refine ⟨7, rfl, by decide, by decide, for_range (lo := 0) (n := 7) (fun i σ H' => ∃ n : Int, 0 ≤ n ∧ n < 10 ^ (8 * i) ∧ Wx W H H' ∧ ∃ y, σ = [some (.ref W), some (.int n), y]) ⟨0, by decide, by decide, Wx.refl hI, none, rfl⟩ ?_ ?_⟩
    · rintro i σ H1 hi ⟨n, n0, n1, x1, y, rfl⟩
      refine ⟨.int n, rfl, 10, 8, rfl, rfl, ⟨by decide, by decide, by decide⟩, n, _, rfl, rfl, .inr ⟨by decide, by decide⟩, .ref W, rfl, 10, 8, rfl, rfl, ⟨by decide, by decide, by decide⟩, W, _, rfl, by decide, by decide, x1.well, fun r H2 r0 r1 x2 => ⟨_, r, rfl, rfl, _, ?_, ?_, x1.trans x2, _, rfl⟩⟩
      · have : 0 ≤ n * 10 ^ (8 : Int).toNat := Int.mul_nonneg n0 (by decide)
        omega
      · have e : (10 : Int) ^ (8 * (i + 1)) = 10 ^ (8 * i) * 100000000 := by rw [Nat.mul_add, Int.pow_add]; rfl
        have e2 : (10 : Int) ^ (8 : Int).toNat = 100000000 := by decide
        rw [e, e2]
        rw [e2] at r1
        omega
    · rintro σ H1 ⟨n, n0, n1, x1, y, rfl⟩
      exact ⟨_, rfl, q n H1 n0 (by simpa using n1) x1⟩

/-! ### the law's own -/
def spTells : Sp := fun vs H Q _ => ∃ (v : V) (sp : Spn) (x size : Int), vs = [v, .int x, .int size] ∧ PS2 H v sp ∧ good5 sp ∧ Q (.bl (tells size x sp)) H
theorem ok_law_tells (T : Txt K mg) : FnOk P w K mg base CX0 1 T.f_law_tells T.fd_law_tells ["_law_span_here", "_law_at", "_law_size"] spTells := by
  refine T.d_law_tells.F.ok sc_law_tells (fun vs H Q E h => ?_) (fun cdv A outer s H vs Q E hr h => ?_)
  · obtain ⟨v, sp, x, size, rfl, _⟩ := h
    rfl
  · obtain ⟨v, sp, x, size, rfl, ⟨t, rfl, ht⟩, hg, q⟩ := h
    refine ⟨_, (pss_cons (ps_asg (pv 0) (pg_tup rfl (pgs_cons (pg_name (i := 3) sc_law_tells.nd rfl (.inl rfl)) (pgs_cons (pg_name (i := 4) sc_law_tells.nd rfl (.inl rfl)) pgs_nil))))
      (pss_cons (ps_if (pt_cmpR op_isN (pv 3) pe_non (nomark _))
      (pss_one (ps_ret (pe_cmpR op_ge (pv 1) (pe_op op_sub (pv 2) (pv 4)) (nomark _))))
      pss_nil)
      (pss_one (ps_ret (pe_and (pe_cmpR op_le (pv 3) (pv 1) (nomark _)) (pe_one (pe_or (pe_cmpR op_isN (pv 4) pe_non (nomark _)) (pe_one (pe_cmpR op_lt (pv 1) (pv 4) (nomark _)))))))))), ?_⟩
    refine ⟨_, rfl, t, _, rfl, SqT.of ht, rfl, _, _, rfl, _, _, rfl, rfl, ?_⟩
    obtain ⟨a, b⟩ := sp
    cases a with
    | none =>
      cases b with
      | none => exact hg.elim
      | some b => exact ⟨.non, rfl, rfl, true, rfl, .int x, rfl, .int size, rfl, .int b, rfl, size, b, rfl, rfl, x, size - b, rfl, rfl, q⟩
    | some a =>
      refine ⟨.int a, rfl, rfl, false, rfl, .int a, rfl, .int x, rfl, a, x, rfl, rfl, _, rfl, ?_⟩
      cases b with
      | none =>
        refine ite2 (fun e => ?_) (fun e => ?_)
        · have q' : Q (.bl true) H := by
            have e2 : tells size x (some a, none) = true := e
            rw [e2] at q
            exact q
          exact ⟨.non, rfl, rfl, true, rfl, q'⟩
        · have e2 : tells size x (some a, none) = false := by
            show decide (a ≤ x) = false
            simpa using e
          rw [e2] at q
          exact q
      | some b =>
        refine ite2 (fun e => ?_) (fun e => ?_)
        · have e2 : tells size x (some a, some b) = decide (x < b) := by
            show (decide (a ≤ x) && decide (x < b)) = _
            rw [e]
            rfl
          rw [e2] at q
          exact ⟨.int b, rfl, rfl, false, rfl, .int x, rfl, .int b, rfl, x, b, rfl, rfl, q⟩
        · have e2 : tells size x (some a, some b) = false := by
            show (decide (a ≤ x) && decide (x < b)) = _
            rw [show decide (a ≤ x) = false by simpa using e]
            rfl
          rw [e2] at q
          exact q
def spWhole : Sp := fun vs H Q _ => ∃ n : Int, vs = [.int n] ∧ Q (.bl true) H
theorem ok_law_whole (T : Txt K mg) : FnOk P w K mg base CX0 1 T.f_law_whole T.fd_law_whole ["_law_number"] spWhole := by
  refine T.d_law_whole.F.ok sc_law_whole (fun vs H Q E h => ?_) (fun cdv A outer s H vs Q E hr h => ?_)
  · obtain ⟨n, rfl, _⟩ := h
    rfl
  · obtain ⟨n, rfl, q⟩ := h
    refine ⟨_, (pss_one (ps_ret (pe_and (pe_callB call_isi (by rfl) T.m_isinstance (by decide +kernel) (pa_cons (pv 0) (pa_cons (pe_bltn (v := .ty "int") (by rfl) T.m_int (by decide +kernel) rfl) pa_nil))) (pe_one (pe_not (pe_callB call_isi (by rfl) T.m_isinstance (by decide +kernel) (pa_cons (pv 0) (pa_cons (pe_bltn (v := .ty "bool") (by rfl) T.m_bool (by decide +kernel) rfl) pa_nil)))))))), ?_⟩
    exact ⟨.int n, rfl, .int n, .ty "int", _, _, true, rfl, .ty "int", .base (.int n), kit2 (by decide +kernel), true, rfl, .int n, rfl, .int n, .ty "bool", _, _, false, rfl, .ty "bool", .base (.int n), kit2 (by decide +kernel), false, rfl, q⟩
def lastE (l : List (Int × Int)) : Int := ((l.getLast?).map (·.2)).getD (-2)
theorem lastE_snoc (l : List (Int × Int)) (p : Int × Int) : lastE (l ++ [p]) = p.2 := by
  unfold lastE
  rw [List.getLast?_concat]
  rfl
def spRis : Sp := fun vs H Q _ => ∃ (a : Addr) (xs : List V) (ps : List (Int × Int)) (size : Int), vs = [.ref a, .int size] ∧ H a = some (.lst xs) ∧ Paired (PS2 H) xs (ps.map iv) ∧ (ps.Pairwise fun u v => u.2 < v.1) ∧ (∀ u ∈ ps, okp size u) ∧ Q (.bl true) H
theorem ok_law_rising (T : Txt K mg) : FnOk P w K mg base CX0 2 T.f_law_rising T.fd_law_rising ["_law_found", "_law_size"] spRis := by
  refine T.d_law_rising.F.ok sc_law_rising (fun vs H Q E h => ?_) (fun cdv A outer s H vs Q E hr h => ?_)
  · obtain ⟨a, xs, ps, size, rfl, _⟩ := h
    rfl
  · obtain ⟨a, xs, ps, size, rfl, ha, hx, hpw, hok, q⟩ := h
    refine ⟨_, (pss_cons (ps_if (pt_not (pt_val (pe_callB call_isi (by rfl) T.m_isinstance (by decide +kernel) (pa_cons (pv 0) (pa_cons (pe_bltn (v := .ty "list") (by rfl) T.m_list (by decide +kernel) rfl) pa_nil)))))
      (pss_one (ps_ret pe_bl))
      pss_nil)
      (pss_cons (ps_set (i := 2) sc_law_rising.nd rfl (.inl rfl) (pe_un un_neg pe_int))
      (pss_cons (ps_for PassesOwn.never rfl (pi_list (pv 0)) (pg_name (i := 3) sc_law_rising.nd rfl (.inl rfl))
      (pss_cons (ps_if (PW.pt (pw_or (pt_not (pt_val (pe_callB call_isi (by rfl) T.m_isinstance (by decide +kernel) (pa_cons (pv 3) (pa_cons (pe_bltn (v := .ty "tuple") (by rfl) T.m_tuple (by decide +kernel) rfl) pa_nil))))) (pw_or (pt_cmpR op_ne (pe_callB call_len_seq (by rfl) T.m_len (by decide +kernel) (pa_cons (pv 3) pa_nil)) pe_int (nomark _)) (pw_or (pt_not (pt_val (pe_call (ok_law_whole T) (hr.mono (by decide)) (by rfl) T.d_law_whole.g T.d_law_whole.F.kp T.d_law_whole.b .nil pass0 (pa_cons (pe_ix ix_tup (pv 3) pe_int (fun _ _ => rfl)) pa_nil)))) (pw_or1 (pt_not (pt_val (pe_call (ok_law_whole T) (hr.mono (by decide)) (by rfl) T.d_law_whole.g T.d_law_whole.F.kp T.d_law_whole.b .nil pass0 (pa_cons (pe_ix ix_tup (pv 3) pe_int (fun _ _ => rfl)) pa_nil)))))))))
      (pss_one (ps_ret pe_bl))
      pss_nil)
      (pss_cons (ps_if (PW.pt (pw_or (pt_cmpR op_le (pe_ix ix_tup (pv 3) pe_int (fun _ _ => rfl)) (pv 2) (nomark _)) (pw_or (pt_cmpR op_lt (pe_ix ix_tup (pv 3) pe_int (fun _ _ => rfl)) pe_int (nomark _)) (pw_or (pt_cmpR op_ge (pe_ix ix_tup (pv 3) pe_int (fun _ _ => rfl)) (pe_ix ix_tup (pv 3) pe_int (fun _ _ => rfl)) (nomark _)) (pw_or1 (pt_cmpR op_gt (pe_ix ix_tup (pv 3) pe_int (fun _ _ => rfl)) (pv 1) (nomark _)))))))
      (pss_one (ps_ret pe_bl))
      pss_nil)
      (pss_one (ps_set (i := 2) sc_law_rising.nd rfl (.inl rfl) (pe_ix ix_tup (pv 3) pe_int (fun _ _ => rfl)))))))
      (pss_one (ps_ret pe_bl))))), ?_⟩
    refine ⟨.ref a, rfl, .ref a, .ty "list", _, _, true, rfl, .ty "list", .base (.lst ha), kit2 (by decide +kernel), true, rfl, ?_⟩
    refine ⟨2, rfl, .ref a, rfl, a, rfl, ⟨_, SqL.of ha⟩, for_list (K := K) (a := a) (xs := xs) (fun i σ H' => H' = H ∧ ∃ y, σ = [some (.ref a), some (.int size), some (.int (lastE (ps.take i))), y]) ⟨rfl, none, rfl⟩ (fun i σ H' _ pv => by rw [pv.1]; exact SqL.of ha) ?_ ?_⟩
    · rintro i x σ H1 hi ⟨rfl, y, rfl⟩
      obtain ⟨sp, hsp, t, rfl, ht⟩ := paired_at hx hi
      rw [List.getElem?_map] at hsp
      cases hk : ps[i]? with
      | none =>
        rw [hk] at hsp
        cases hsp
      | some p =>
        rw [hk] at hsp
        cases hsp
        obtain ⟨p0, p1, p2⟩ := hok p (List.mem_of_getElem? hk)
        have i0 : atI [V.int p.1, V.int p.2] 0 = some (.int p.1) := rfl
        have i1 : atI [V.int p.1, V.int p.2] 1 = some (.int p.2) := rfl
        have hlast : lastE (ps.take i) < p.1 := by
          unfold lastE
          cases hg : (ps.take i).getLast? with
          | none =>
            show (-2 : Int) < p.1
            omega
          | some u =>
            show u.2 < p.1
            have hu := List.mem_of_getLast? hg
            obtain ⟨j, hj, rfl⟩ := List.getElem_of_mem hu
            rw [List.length_take] at hj
            rw [List.getElem_take]
            obtain ⟨hil, rfl⟩ := List.getElem?_eq_some_iff.mp hk
            exact (List.pairwise_iff_getElem.mp hpw) j i (by omega) hil (by omega)
        have hnext : lastE (ps.take (i + 1)) = p.2 := by
          rw [List.take_add_one, hk]
          exact lastE_snoc _ _
        refine ⟨.ref t, rfl, .ref t, .ty "tuple", _, _, true, rfl, .ty "tuple", .base (.tup ht), kit2 (by decide +kernel), true, rfl, ?_⟩
        refine ⟨.ref t, rfl, t, _, rfl, .inr (SqT.of ht), rfl, false, rfl, ?_⟩
        refine ⟨.ref t, rfl, t, _, 0, _, rfl, rfl, SqT.of ht, i0, p.1, rfl, true, rfl, ?_⟩
        refine ⟨.ref t, rfl, t, _, 1, _, rfl, rfl, SqT.of ht, i1, p.2, rfl, true, rfl, ?_⟩
        refine ⟨.ref t, rfl, t, _, 0, _, rfl, rfl, SqT.of ht, i0, _, rfl, p.1, _, rfl, rfl, false, congrArg V.bl (decide_eq_false (by omega)), ?_⟩
        refine ⟨.ref t, rfl, t, _, 0, _, rfl, rfl, SqT.of ht, i0, p.1, 0, rfl, rfl, false, congrArg V.bl (decide_eq_false (by omega)), ?_⟩
        refine ⟨.ref t, rfl, t, _, 0, _, rfl, rfl, SqT.of ht, i0, .ref t, rfl, t, _, 1, _, rfl, rfl, SqT.of ht, i1, p.1, p.2, rfl, rfl, false, congrArg V.bl (decide_eq_false (by omega)), ?_⟩
        refine ⟨.ref t, rfl, t, _, 1, _, rfl, rfl, SqT.of ht, i1, .int size, rfl, p.2, size, rfl, rfl, false, congrArg V.bl (decide_eq_false (by omega)), ?_⟩
        exact ⟨.ref t, rfl, t, _, 1, _, rfl, rfl, SqT.of ht, i1, rfl, _, by rw [hnext]; rfl⟩
    · rintro σ H1 ⟨rfl, y, rfl⟩
      exact q
end
end My
namespace My
open PySem PySem.Spec PyProof.Rows L2 TL
theorem paired_mem {α β : Type} {R : α → β → Prop} : ∀ {xs : List α} {ys : List β}, Paired R xs ys → ∀ {x : α}, x ∈ xs → ∃ y, y ∈ ys ∧ R x y
  | _, _, .nil, x, h => nomatch h
  | _, _, .cons r t, x, h => by
    rcases List.mem_cons.mp h with rfl | h
    · exact ⟨_, List.mem_cons_self .., r⟩
    · obtain ⟨y, hy, hr⟩ := paired_mem t h
      exact ⟨y, List.mem_cons_of_mem _ hy, hr⟩
section
variable {P : Program} {w : World} {K : PySem.W.Frag} {mg : Str → Option Value} {base : Heap}
def spSp5 : Sp := fun vs H Q _ => ∃ (W L : Addr) (far : Int) (xs : List V) (sps : List Spn), vs = [.ref W, .int far, .ref L] ∧ 0 ≤ far ∧ IsW H W ∧ H L = some (.lst xs) ∧ W ≠ L ∧ Paired (PS2 H) xs sps ∧ (∀ sp ∈ sps, good5 sp) ∧ sps.length ≤ 100 ∧
  ∀ v sp H', good5 sp → Wx W H H' → PS2 H' v sp → Q v H'
theorem ok_law_span (T : Txt K mg) : FnOk P w K mg base CX0 2 T.f_law_span T.fd_law_span ["_law_well_here", "_law_far", "_law_known"] spSp5 := by
  refine T.d_law_span.F.ok sc_law_span (fun vs H Q E h => ?_) (fun cdv A outer s H vs Q E hr h => ?_)
  · obtain ⟨W, L, far, xs, sps, rfl, _⟩ := h
    rfl
  · obtain ⟨W, L, far, xs, sps, rfl, f0, hI, eL, nWL, hxs, hg, hl, q⟩ := h
    refine ⟨_, (pss_cons (ps_set (i := 3) sc_law_span.nd rfl (.inl rfl) (pe_call (ok_law_draw T) (hr.mono (by decide)) (by rfl) T.d_law_draw.g T.d_law_draw.F.kp T.d_law_draw.b .nil pass0 (pa_cons (pv 0) (pa_cons pe_int pa_nil))))
      (pss_cons (ps_set (i := 4) sc_law_span.nd rfl (.inl rfl) (pe_op op_add (pv 1) (pe_call (ok_law_draw T) (hr.mono (by decide)) (by rfl) T.d_law_draw.g T.d_law_draw.F.kp T.d_law_draw.b .nil pass0 (pa_cons (pv 0) (pa_cons pe_int pa_nil)))))
      (pss_cons (ps_set (i := 5) sc_law_span.nd rfl (.inl rfl) (pe_op op_add pe_int (pe_call (ok_law_draw T) (hr.mono (by decide)) (by rfl) T.d_law_draw.g T.d_law_draw.F.kp T.d_law_draw.b .nil pass0 (pa_cons (pv 0) (pa_cons (pe_ix ix_list (pe_lst (pa_cons pe_int (pa_cons pe_int pa_nil))) (pe_call (ok_law_draw T) (hr.mono (by decide)) (by rfl) T.d_law_draw.g T.d_law_draw.F.kp T.d_law_draw.b .nil pass0 (pa_cons (pv 0) (pa_cons pe_int pa_nil))) (fun _ _ => rfl)) pa_nil)))))
      (Evl.pss_cut (ps_if (PW.pt (pw_and (pt_cmpR (op_neD hr.units) (pv 2) (pe_lst pa_nil) (nomark _)) (pw_and1 (pt_cmpR op_eq (pe_call (ok_law_draw T) (hr.mono (by decide)) (by rfl) T.d_law_draw.g T.d_law_draw.F.kp T.d_law_draw.b .nil pass0 (pa_cons (pv 0) (pa_cons pe_int pa_nil))) pe_int (nomark _)))))
      (pss_cons (ps_set (i := 6) sc_law_span.nd rfl (.inl rfl) (pe_ix ix_list (pv 2) (pe_call (ok_law_draw T) (hr.mono (by decide)) (by rfl) T.d_law_draw.g T.d_law_draw.F.kp T.d_law_draw.b .nil pass0 (pa_cons (pv 0) (pa_cons (pe_callB call_len_seq (by rfl) T.m_len (by decide +kernel) (pa_cons (pv 2) pa_nil)) pa_nil))) (fun _ _ => rfl)))
      (pss_one (ps_if (PW.pt (pw_and (pt_cmpR op_notN (pe_ix ix_tup (pv 6) pe_int (fun _ _ => rfl)) pe_non (nomark _)) (pw_and1 (pt_cmpR op_notN (pe_ix ix_tup (pv 6) pe_int (fun _ _ => rfl)) pe_non (nomark _)))))
      (pss_one (ps_set (i := 4) sc_law_span.nd rfl (.inl rfl) (pe_ix ix_list (pe_lst (pa_cons (pe_ix ix_tup (pv 6) pe_int (fun _ _ => rfl)) (pa_cons (pe_ix ix_tup (pv 6) pe_int (fun _ _ => rfl)) (pa_cons (pe_op op_add (pe_ix ix_tup (pv 6) pe_int (fun _ _ => rfl)) pe_int) (pa_cons (pe_callB (call_max2 rfl) (by rfl) T.m_max (by decide +kernel) (pa_cons pe_int (pa_cons (pe_op op_sub (pe_ix ix_tup (pv 6) pe_int (fun _ _ => rfl)) (pv 5)) pa_nil))) pa_nil))))) (pe_call (ok_law_draw T) (hr.mono (by decide)) (by rfl) T.d_law_draw.g T.d_law_draw.F.kp T.d_law_draw.b .nil pass0 (pa_cons (pv 0) (pa_cons pe_int pa_nil))) (fun _ _ => rfl))))
      pss_nil)))
      pss_nil)
      (pss_cons (ps_if (pt_cmpR op_eq (pv 3) pe_int (nomark _))
      (pss_one (ps_ret (pe_tup (pa_cons (pv 4) (pa_cons pe_non pa_nil)))))
      pss_nil)
      (pss_cons (ps_if (pt_cmpR op_eq (pv 3) pe_int (nomark _))
      (pss_one (ps_ret (pe_tup (pa_cons pe_non (pa_cons (pe_ix ix_list (pe_lst (pa_cons (pv 5) (pa_cons (pe_op op_add (pv 1) (pv 5)) pa_nil))) (pe_call (ok_law_draw T) (hr.mono (by decide)) (by rfl) T.d_law_draw.g T.d_law_draw.F.kp T.d_law_draw.b .nil pass0 (pa_cons (pv 0) (pa_cons pe_int pa_nil))) (fun _ _ => rfl)) pa_nil)))))
      pss_nil)
      (pss_one (ps_ret (pe_tup (pa_cons (pv 4) (pa_cons (pe_op op_add (pv 4) (pv 5)) pa_nil))))))))))), ?_⟩
    have lx : xs.length = sps.length := Paired.length hxs
    refine ⟨.ref W, rfl, W, 6, rfl, by decide, by decide, hI, fun kd H1 _ _ x1 => ?_⟩
    refine ⟨.int far, rfl, .ref W, rfl, W, 70, rfl, by decide, by decide, x1.well, fun r2 H2 r20 _ x2 => ⟨far, r2, rfl, rfl, ?_⟩⟩
    refine ⟨.ref W, rfl, (by show 2 ≤ sizeLine; decide), fun p hp => ?_⟩
    have x2p := x2.new (o := .lst (([4, 60] : List Int).map V.int)) hp
    refine ⟨.ref W, rfl, W, 2, rfl, by decide, by decide, x2p.well, fun r3 H3 r30 r31 x3 => ?_⟩
    obtain ⟨m, hm, em⟩ := ints_at (ns := [4, 60]) r30 r31
    have bm : 0 < m ∧ m ≤ 60 := (by decide : ∀ n ∈ ([4, 60] : List Int), 0 < n ∧ n ≤ 60) m hm
    refine ⟨p, _, r3, _, rfl, rfl, SqL.of (x3.keep p _ (x2.well.ne hp).symm upd_same), em, W, m, rfl, bm.1, by omega, x3.well, fun r4 H4 r40 _ x4 => ⟨1, r4, rfl, rfl, ?_⟩⟩
    have x04 := (((x1.trans x2p)).trans x3).trans x4
    have eL4 := x04.keep _ _ nWL.symm eL
    have hxs4 := ps2s_wx hI x04 hxs
    refine ⟨fun σ' H' => ∃ (low : Int) (y6 : Option V), 0 ≤ low ∧ Wx W H H' ∧ σ' = [some (.ref W), some (.int far), some (.ref L), some (.int kd), some (.int low), some (.int (1 + r4)), y6], ?_, ?_⟩
    · refine ⟨.ref L, rfl, Nat.zero_le _, fun p5 h5 => ?_⟩
      have s5 := same_upd (o := .lst []) h5
      have x5 := x04.same s5
      have eL5 := s5 _ _ eL4
      have hxs5 := ps2s_mono s5 hxs4
      refine ⟨.list (sps.map sd), .list [], .lst (SqL.of eL5) (dp_sps hxs5), .lst (SqL.of upd_same) .nil, shaped_sps _, by decide, ?_⟩
      cases sps with
      | nil => exact ⟨false, by decide, far + r2, none, by omega, x5, rfl⟩
      | cons s0 S0 =>
        refine ⟨true, by simp [PyData.eqv, PyData.eqvAll], ?_⟩
        refine ⟨.ref W, rfl, W, 3, rfl, by decide, by decide, x5.well, fun r6 H6 _ _ x6 => ⟨rfl, _, rfl, ?_⟩⟩
        have x06 := x5.trans x6
        have eL6 := x6.keep _ _ nWL.symm eL5
        have hxs6 := ps2s_wx x5.well x6 hxs5
        refine ite2 (fun e => ?_) (fun e => ?_)
        · rw [List.length_cons] at lx hl
          refine ⟨.ref L, rfl, .ref W, rfl, .ref L, rfl, L, _, rfl, .inl (SqL.of eL6), W, _, rfl, by omega, by omega, x6.well, fun r7 H7 r70 r71 x7 => ?_⟩
          have x07 := x06.trans x7
          have eL7 := x7.keep _ _ nWL.symm eL6
          have hxs7 := ps2s_wx x6.well x7 hxs6
          obtain ⟨v, hv, ev⟩ := atI_in (xs := xs) r70 r71
          obtain ⟨sp, hsp, t, rfl, ht⟩ := paired_mem hxs7 hv
          have hgs := hg sp hsp
          refine ⟨L, _, r7, _, rfl, rfl, SqL.of eL7, ev, ?_⟩
          obtain ⟨a, b⟩ := sp
          have i0 : atI [oV a, oV b] 0 = some (oV a) := rfl
          have i1 : atI [oV a, oV b] 1 = some (oV b) := rfl
          refine ⟨.ref t, rfl, t, _, 0, _, rfl, rfl, SqT.of ht, i0, rfl, ?_⟩
          cases a with
          | none => exact ⟨false, rfl, far + r2, _, by omega, x07, rfl⟩
          | some a =>
            refine ⟨true, rfl, .ref t, rfl, t, _, 1, _, rfl, rfl, SqT.of ht, i1, rfl, ?_⟩
            cases b with
            | none => exact ⟨false, rfl, far + r2, _, by omega, x07, rfl⟩
            | some b =>
              obtain ⟨a0, ab⟩ := hgs
              refine ⟨true, rfl, ?_⟩
              refine ⟨.ref t, rfl, t, _, 0, _, rfl, rfl, SqT.of ht, i0, .ref t, rfl, t, _, 1, _, rfl, rfl, SqT.of ht, i1, .ref t, rfl, t, _, 1, _, rfl, rfl, SqT.of ht, i1, b, 1, rfl, rfl, .ref t, rfl, t, _, 0, _, rfl, rfl, SqT.of ht, i0, _, rfl, a, _, rfl, rfl, 0, _, rfl, (by show 4 ≤ sizeLine; decide), fun p8 h8 => ?_⟩
              have x8 := x07.new (o := .lst (([a, b, b + 1, if a - (1 + r4) > 0 then a - (1 + r4) else 0] : List Int).map V.int)) h8
              refine ⟨.ref W, rfl, W, 4, rfl, by decide, by decide, x8.well, fun r9 H9 r90 r91 x9 => ?_⟩
              obtain ⟨n, hn, en⟩ := ints_at (ns := [a, b, b + 1, if a - (1 + r4) > 0 then a - (1 + r4) else 0]) r90 r91
              refine ⟨p8, _, r9, _, rfl, rfl, SqL.of (x9.keep p8 _ (x7.well.ne h8).symm upd_same), en, n, _, ?_, x8.trans x9, rfl⟩
              simp only [List.mem_cons, List.not_mem_nil, or_false] at hn
              rcases hn with rfl | rfl | rfl | rfl
              · exact a0
              · omega
              · omega
              · split <;> omega
        · exact ⟨far + r2, none, by omega, x06, rfl⟩
    · rintro σ' H5 ⟨low, y6, l0, x5, rfl⟩
      refine ⟨.int kd, rfl, rfl, _, rfl, ite2 (fun e => ?_) (fun e => ?_)⟩
      · exact ⟨.int low, rfl, (by show 2 ≤ sizeLine; decide), fun p hp => q _ (some low, none) _ l0 (x5.new hp) ⟨p, rfl, upd_same⟩⟩
      refine ⟨.int kd, rfl, rfl, _, rfl, ite2 (fun e => ?_) (fun e => ?_)⟩
      · refine ⟨_, rfl, _, rfl, _, rfl, far, 1 + r4, rfl, rfl, (by show 2 ≤ sizeLine; decide), fun p6 h6 => ?_⟩
        have x6 := x5.new (o := .lst (([1 + r4, far + (1 + r4)] : List Int).map V.int)) h6
        refine ⟨.ref W, rfl, W, 2, rfl, by decide, by decide, x6.well, fun r7 H7 r70 r71 x7 => ?_⟩
        obtain ⟨n, hn, en⟩ := ints_at (ns := [1 + r4, far + (1 + r4)]) r70 r71
        refine ⟨p6, _, r7, _, rfl, rfl, SqL.of (x7.keep p6 _ (x5.well.ne h6).symm upd_same), en, (by show 2 ≤ sizeLine; decide), fun p hp => q _ (none, some n) _ ?_ ((x6.trans x7).new hp) ⟨p, rfl, upd_same⟩⟩
        simp only [List.mem_cons, List.not_mem_nil, or_false] at hn
        show 1 ≤ n
        rcases hn with rfl | rfl <;> omega
      · exact ⟨.int low, rfl, .int low, rfl, _, rfl, low, 1 + r4, rfl, rfl, (by show 2 ≤ sizeLine; decide), fun p hp => q _ (some low, some (low + (1 + r4))) _ ⟨l0, by omega⟩ (x5.new hp) ⟨p, rfl, upd_same⟩⟩
def spPlaces : Sp := fun vs H Q _ => ∃ (a b : Addr) (size : Int) (xs ys : List V) (sps qs : List Spn), vs = [.ref a, .ref b, .int size] ∧ H a = some (.lst xs) ∧ H b = some (.lst ys) ∧ Paired (PS2 H) xs sps ∧ Paired (PS2 H) ys qs ∧ sps.length ≤ 500 ∧ qs.length ≤ 500 ∧
  ∀ p (ns : List Int) H', Same H H' → H' p = some (.lst (ns.map V.int)) → (∀ n ∈ ns, 0 ≤ n ∧ n < size) → Q (.ref p) H'
theorem ok_law_places (T : Txt K mg) : FnOk P w K mg base CX0 1 T.f_law_places T.fd_law_places ["_law_spans", "_law_found", "_law_size"] spPlaces := by
  refine T.d_law_places.F.ok sc_law_places (fun vs H Q E h => ?_) (fun cdv A outer s H vs Q E hr h => ?_)
  · obtain ⟨a, b, size, xs, ys, sps, qs, rfl, _⟩ := h
    rfl
  · obtain ⟨a, b, size, xs, ys, sps, qs, rfl, ha, hb, hxs, hys, l1, l2, q⟩ := h
    refine ⟨_, (pss_cons (ps_set (i := 3) sc_law_places.nd rfl (.inl rfl) (pe_lst (pa_cons pe_int (pa_cons (pv 2) pa_nil))))
      (pss_cons (ps_for PassesOwn.never rfl (pi_list (pe_op op_cat (pe_callTy call_list_of (by rfl) T.m_list (by decide +kernel) (pa_cons (pv 0) pa_nil)) (pv 1))) (pg_tup rfl (pgs_cons (pg_name (i := 4) sc_law_places.nd rfl (.inl rfl)) (pgs_cons (pg_name (i := 5) sc_law_places.nd rfl (.inl rfl)) pgs_nil)))
      (Evl.pss_cut (ps_if (pt_cmpR op_notN (pv 4) pe_non (nomark _))
      (pss_one (ps_expr (pe_bm PySem.F.plainAttrs_list PySem.F.slot_list_append PySem.F.type_list_append mt_append (pv 3) (pa_cons (pv 4) pa_nil))))
      pss_nil)
      (pss_one (ps_if (pt_cmpR op_notN (pv 5) pe_non (nomark _))
      (pss_one (ps_set (i := 3) sc_law_places.nd rfl (.inl rfl) (pe_op op_cat (pv 3) (pe_lst (pa_cons (pv 5) (pa_cons (pe_op op_sub (pv 2) (pv 5)) pa_nil))))))
      pss_nil))))
      (pss_cons (ps_set (i := 6) sc_law_places.nd rfl (.inl rfl) (pe_lst pa_nil))
      (pss_cons (ps_for PassesOwn.never rfl (pi_list (pv 3)) (pg_name (i := 7) sc_law_places.nd rfl (.inl rfl))
      (pss_one (ps_set (i := 6) sc_law_places.nd rfl (.inl rfl) (pe_op op_cat (pv 6) (pe_lc (own := [("_law_at", 8)]) (g := gName 8) (by rfl) sc_law_places.nd (pi_list (pe_lst (pa_cons (pe_op op_sub (pv 7) pe_int) (pa_cons (pv 7) (pa_cons (pe_op op_add (pv 7) pe_int) pa_nil))))) (blkOk_by (own := [("_law_at", 8)]) (N := ["_law_spans", "_law_found", "_law_size", "_law_ends", "_law_low", "_law_high", "_law_places_here", "_law_end", "_law_at"]) (sc := defScope s_law_places) (by decide +kernel)) (fun _ _ _ _ _ => (pg_name (i := 8) sc_law_places.nd rfl (Or.inl rfl))) (fun _ _ _ _ _ => (pts_one (pt_chain op_le op_lt pe_int (pv 8) (pv 2)))) (fun _ _ _ _ _ => (pv 8)))))))
      (pss_one (ps_ret (pv 6))))))), ?_⟩
    have lx : xs.length = sps.length := Paired.length hxs
    have ly : ys.length = qs.length := Paired.length hys
    have hxy := paired_app hxs hys
    refine ⟨.int size, rfl, (by show 2 ≤ sizeLine; decide), fun e he => ?_⟩
    have s1 := same_upd (o := .lst (([0, size] : List Int).map V.int)) he
    refine ⟨.ref a, rfl, a, _, rfl, .inl (SqL.of (s1 _ _ ha)), fun l hl => ?_⟩
    have s2 := same_upd (o := .lst xs) hl
    refine ⟨.ref b, rfl, l, b, _, _, rfl, rfl, upd_same, s2 _ _ (s1 _ _ hb), szl (by omega), fun c hc => ?_⟩
    have s3 := same_upd (o := .lst (xs ++ ys)) hc
    have ee3 := s3 _ _ (s2 _ _ (show (upd H e (.lst (([0, size] : List Int).map V.int))) e = some (.lst (([0, size] : List Int).map V.int)) from upd_same))
    have nec : e ≠ c := ne_of_none (s2 _ _ (show (upd H e (.lst (([0, size] : List Int).map V.int))) e = some (.lst (([0, size] : List Int).map V.int)) from upd_same)) hc
    refine ⟨c, rfl, ⟨_, SqL.of upd_same⟩, for_list (K := K) (a := c) (xs := xs ++ ys) (fun i σ H' => Same H H' ∧ H' c = some (.lst (xs ++ ys)) ∧ ∃ (e : Addr) (ms : List Int) (y4 y5 : Option V), H' e = some (.lst (ms.map V.int)) ∧ ms.length ≤ 2 + 3 * i ∧ H e = none ∧ e ≠ c ∧ σ = [some (.ref a), some (.ref b), some (.int size), some (.ref e), y4, y5, none, none, none])
      ⟨(s1.trans s2).trans s3, upd_same, e, [0, size], none, none, ee3, Nat.le_refl _, he, nec, rfl⟩ (fun i σ H' _ pv => SqL.of pv.2.1) ?_ ?_⟩
    · rintro i x σ H1 hi ⟨sm, ec, e, ms, y4, y5, ee, lm, he, nec, rfl⟩
      have hil : i < (xs ++ ys).length := (List.getElem?_eq_some_iff.mp hi).1
      rw [List.length_append] at hil
      obtain ⟨sp, hsp, t, rfl, ht0⟩ := paired_at hxy hi
      have ht := sm _ _ ht0
      refine ⟨t, _, rfl, SqT.of ht, rfl, _, _, rfl, _, _, rfl, rfl, ?_⟩
      obtain ⟨o1, o2⟩ := sp
      refine ⟨fun σ' H' => Same H H' ∧ H' c = some (.lst (xs ++ ys)) ∧ ∃ (ms : List Int), H' e = some (.lst (ms.map V.int)) ∧ ms.length ≤ 3 + 3 * i ∧ σ' = [some (.ref a), some (.ref b), some (.int size), some (.ref e), some (oV o1), some (oV o2), none, none, none], ?_, ?_⟩
      · cases o1 with
        | none => exact ⟨.non, rfl, rfl, false, rfl, sm, ec, ms, ee, by omega, rfl⟩
        | some n =>
          refine ⟨.int n, rfl, rfl, true, rfl, .ref e, rfl, .inl ⟨rfl, _, SqL.of ee⟩, .int n, rfl, e, _, _, rfl, rfl, ee, by rw [List.length_map]; exact szlt (by omega), same_mut sm he, by rw [upd_ne nec.symm]; exact ec, ms ++ [n], by rw [upd_same, List.map_append]; rfl, by rw [List.length_append]; show _ + 1 ≤ _; omega, rfl⟩
      · rintro σ' H2 ⟨s2', ec2, ms2, ee2, lm2, rfl⟩
        cases o2 with
        | none => exact ⟨.non, rfl, rfl, false, rfl, s2', ec2, e, ms2, _, _, ee2, by omega, he, nec, rfl⟩
        | some n =>
          refine ⟨.int n, rfl, rfl, true, rfl, .ref e, rfl, .int n, rfl, .int size, rfl, .int n, rfl, size, n, rfl, rfl, (by show 2 ≤ sizeLine; decide), fun p4 h4 => ?_⟩
          have s4 := same_upd (o := .lst (([n, size - n] : List Int).map V.int)) h4
          refine ⟨e, p4, _, _, rfl, rfl, s4 _ _ ee2, upd_same, by rw [List.length_map]; exact szl (by show _ + 2 ≤ _; omega), fun p5 h5 => ?_⟩
          have s5 := same_upd (o := .lst ((ms2 ++ [n, size - n]).map V.int)) h5
          have eq5 : ms2.map V.int ++ [.int n, .int (size - n)] = (ms2 ++ [n, size - n]).map V.int := by
            rw [List.map_append]
            rfl
          rw [eq5]
          have hp5 : H p5 = none := ((s2'.trans s4)).free h5
          have n5 : p5 ≠ c := (ne_of_none (s4 _ _ ec2) h5).symm
          exact ⟨(s2'.trans s4).trans s5, s5 _ _ (s4 _ _ ec2), p5, ms2 ++ [n, size - n], _, _, upd_same, by rw [List.length_append]; show _ + 2 ≤ _; omega, hp5, n5, rfl⟩
    · rintro σ H1 ⟨sm, ec, e, ms, y4, y5, ee, lm, he, nec, rfl⟩
      rw [List.length_append] at lm
      refine ⟨Nat.zero_le _, fun g hg => ?_⟩
      have sg := same_upd (o := .lst []) hg
      refine ⟨.ref e, rfl, e, rfl, ⟨_, SqL.of (sg _ _ ee)⟩, for_list (K := K) (a := e) (xs := ms.map V.int) (fun i σ H' => Same H1 H' ∧ ∃ (g : Addr) (ns : List Int) (y7 : Option V), H' g = some (.lst (ns.map V.int)) ∧ (∀ n ∈ ns, 0 ≤ n ∧ n < size) ∧ ns.length ≤ 3 * i ∧ σ = [some (.ref a), some (.ref b), some (.int size), some (.ref e), y4, y5, some (.ref g), y7, none])
        ⟨sg, g, [], none, upd_same, (fun _ h => nomatch h), Nat.le_refl _, rfl⟩ (fun i σ H' _ pv => SqL.of (pv.1 _ _ ee)) ?_ ?_⟩
      · rintro i v σ H2 hi ⟨s2', g, ns, y7, eg, hn, ln, rfl⟩
        have hil : i < ms.length := by
          have := (List.getElem?_eq_some_iff.mp hi).1
          rw [List.length_map] at this
          exact this
        obtain ⟨x, rfl⟩ := int_at hi
        refine ⟨.ref g, rfl, .int x, rfl, x, 1, rfl, rfl, .int x, rfl, .int x, rfl, x, 1, rfl, rfl, (by show 3 ≤ sizeLine; decide), fun p hp => ?_⟩
        have sp := same_upd (o := .lst (([x - 1, x, x + 1] : List Int).map V.int)) hp
        refine ⟨p, rfl, ⟨_, SqL.of upd_same⟩, fun D hD => ?_⟩
        refine lc_list (K := K) (a := p) (xs := ([x - 1, x, x + 1] : List Int).map V.int) (fun j H' => Same (upd H2 p (.lst (([x - 1, x, x + 1] : List Int).map V.int))) H' ∧ ∃ ks : List Int, H' D = some (.lst (ks.map V.int)) ∧ ks.length ≤ j ∧ ∀ k ∈ ks, 0 ≤ k ∧ k < size) ⟨same_upd hD, [], upd_same, Nat.le_refl _, fun _ h => nomatch h⟩ (fun j H' _ pv => SqL.of (pv.1 _ _ upd_same)) ?_ ?_
        · rintro j u H3 hj ⟨s3', ks, eD, lk, hk⟩
          obtain ⟨k, rfl⟩ := int_at hj
          have hjl : j < 3 := (List.getElem?_eq_some_iff.mp hj).1
          refine ⟨rfl, .int k, rfl, 0, k, rfl, rfl, _, rfl, ite2 (fun e1 => ?_) (fun e1 => ?_)⟩
          · refine ⟨.int size, rfl, k, size, rfl, rfl, _, rfl, ite2 (fun e2 => ?_) (fun e2 => ?_)⟩
            · refine ⟨.int k, rfl, _, eD, by rw [List.length_map]; exact szlt (by omega), same_mut s3' hD, ks ++ [k], by rw [upd_same, List.map_append]; rfl, by rw [List.length_append]; show _ + 1 ≤ _; omega, fun z hz => ?_⟩
              rcases List.mem_append.mp hz with h | h
              · exact hk z h
              · rw [List.mem_singleton.mp h]
                exact ⟨of_decide_eq_true e1, of_decide_eq_true e2⟩
            · exact ⟨s3', ks, eD, by omega, hk⟩
          · exact ⟨false, rfl, s3', ks, eD, by omega, hk⟩
        · rintro H3 ⟨s3', ks, eD, lk, hk⟩
          have lk3 : ks.length ≤ 3 := lk
          have t3 := sp.trans s3'
          refine ⟨g, D, _, _, rfl, rfl, t3 _ _ eg, eD, by rw [List.length_map, List.length_map]; exact szl (by omega), fun p2 h2 => ?_⟩
          refine ⟨(s2'.trans t3).trans (same_upd h2), p2, ns ++ ks, _, by rw [upd_same, List.map_append], fun z hz => ?_, by rw [List.length_append]; omega, rfl⟩
          rcases List.mem_append.mp hz with h | h
          · exact hn z h
          · exact hk z h
      · rintro σ H2 ⟨s2', g, ns, y7, eg, hn, ln, rfl⟩
        exact ⟨.ref g, rfl, q g ns H2 (sm.trans s2') eg hn⟩
end
end My
namespace My
open PySem PySem.Spec PyProof.Rows L2 TL
theorem step_len (acc : List (Int × Int)) (p : Int × Int) : (stepR acc p).length ≤ acc.length + 1 := by
  cases acc with
  | nil => exact Nat.le_refl _
  | cons q r =>
    rw [stepR_cons]
    split <;> simp only [List.length_cons] <;> omega
theorem fold_len : ∀ (l acc : List (Int × Int)), (l.foldl stepR acc).length ≤ acc.length + l.length
  | [], acc => Nat.le_refl _
  | p :: l, acc => by
    have h1 := fold_len l (stepR acc p)
    have h2 := step_len acc p
    show (l.foldl stepR (stepR acc p)).length ≤ _
    rw [List.length_cons]
    omega
theorem mrg_len (ps : List (Int × Int)) : (mrg ps).length ≤ ps.length := by
  unfold mrg
  rw [List.length_reverse]
  have h1 := fold_len (srt (ps.filter fun p => decide (p.1 < p.2))) []
  have h2 := (srt_perm (ps.filter fun p => decide (p.1 < p.2))).length_eq
  have h3 := List.length_filter_le (fun p : Int × Int => decide (p.1 < p.2)) ps
  simp only [List.length_nil] at h1
  omega
theorem strT_len (sps : List Spn) (size : Int) : (strT sps size).length ≤ sps.length + 1 := by
  unfold strT
  split
  · have := mrg_len [(0, size)]
    simp only [List.length_cons, List.length_nil] at this
    omega
  · have := mrg_len (sps.map (wi size))
    rw [List.length_map] at this
    omega
theorem eqv_nil (ds : List PyData) : PyData.eqv (.list ds) (.list []) = ds.isEmpty := by
  cases ds <;> simp [PyData.eqv, PyData.eqvAll]
theorem shaped_two (rs : List Spn) : SeqAt.shaped (.list [.list (rs.map sd), .tuple (rs.map sd)]) = true := by
  have := depth_sps rs
  simp only [SeqAt.shaped, PyData.canLay0, PyData.canLayAll0, PyData.depth, PyData.depthAll, lay_sps rs, Bool.and_true, Bool.true_and]
  exact decide_eq_true (by omega)
theorem eqv_two (rs : List Spn) : PyData.eqv (.list [.list (rs.map sd), .tuple (rs.map sd)]) (.list [.list (rs.map sd), .tuple (rs.map sd)]) = true := SeqAt.eqv_refl _ (SeqAt.canLay_of_shaped (shaped_two rs))
theorem isE {α : Type} {l : List α} : l.isEmpty = false ↔ ∃ x, x ∈ l := by
  cases l with
  | nil => simp
  | cons a r => simp
section
variable {P : Program} {w : World} {K : PySem.W.Frag} {mg : Str → Option Value} {base : Heap}
theorem ok_law (T : Txt K mg) : FnOk P w K mg base CX0 3 T.f_law T.fd_law ["_law_script"] (spLaw K) := by
  refine T.d_law.F.ok sc_law (fun vs H Q E h => ?_) (fun cdv A outer s H vs Q E hr h => ?_)
  · obtain ⟨a, ns, rfl, _⟩ := h
    rfl
  · obtain ⟨a, ns, rfl, hS, hlen, q⟩ := h
    refine ⟨_, (pss_cons (ps_for PassesOwn.never rfl (pi_list (pe_op op_cat (pe_slice sl_list (pv 0) po_none (po_some pe_int)) (pe_lst (pa_cons pe_int (pa_cons pe_int (pa_cons pe_int pa_nil)))))) (pg_name (i := 1) sc_law.nd rfl (.inl rfl))
      (pss_cons (ps_set (i := 2) sc_law.nd rfl (.inl rfl) (pe_call (ok_law_well T) (hr.mono (by decide)) (by rfl) T.d_law_well.g T.d_law_well.F.kp T.d_law_well.b .nil pass0 (pa_cons (pv 1) pa_nil)))
      (pss_cons (ps_set (i := 3) sc_law.nd rfl (.inl rfl) (pe_op op_mul (pe_call (ok_law_great T) (hr.mono (by decide)) (by rfl) T.d_law_great.g T.d_law_great.F.kp T.d_law_great.b .nil pass0 (pa_cons (pv 2) pa_nil)) (pe_callTy call_int1 (by rfl) T.m_int (by decide +kernel) (pa_cons (pe_cmpR op_eq (pe_call (ok_law_draw T) (hr.mono (by decide)) (by rfl) T.d_law_draw.g T.d_law_draw.F.kp T.d_law_draw.b .nil pass0 (pa_cons (pv 2) (pa_cons pe_int pa_nil))) pe_int (nomark _)) pa_nil))))
      (pss_cons (ps_set (i := 4) sc_law.nd rfl (.inr rfl) (pe_ix ix_list (pe_lst (pa_cons pe_int (pa_cons (pe_op op_add (pv 3) pe_int) (pa_cons (pe_op op_add (pv 3) (pe_call (ok_law_draw T) (hr.mono (by decide)) (by rfl) T.d_law_draw.g T.d_law_draw.F.kp T.d_law_draw.b .nil pass0 (pa_cons (pv 2) (pa_cons pe_int pa_nil)))) (pa_cons (pe_op op_add (pv 3) (pe_call (ok_law_draw T) (hr.mono (by decide)) (by rfl) T.d_law_draw.g T.d_law_draw.F.kp T.d_law_draw.b .nil pass0 (pa_cons (pv 2) (pa_cons pe_int pa_nil)))) pa_nil))))) (pe_call (ok_law_draw T) (hr.mono (by decide)) (by rfl) T.d_law_draw.g T.d_law_draw.F.kp T.d_law_draw.b .nil pass0 (pa_cons (pv 2) (pa_cons pe_int pa_nil))) (fun _ _ => rfl)))
      (pss_cons (ps_set (i := 5) sc_law.nd rfl (.inl rfl) (pe_call (ok_law_draw T) (hr.mono (by decide)) (by rfl) T.d_law_draw.g T.d_law_draw.F.kp T.d_law_draw.b .nil pass0 (pa_cons (pv 2) (pa_cons pe_int pa_nil))))
      (pss_cons (ps_set (i := 6) sc_law.nd rfl (.inl rfl) (pe_lst pa_nil))
      (pss_cons (ps_for PassesOwn.never rfl (pi_range1 (by rfl) T.m_range (pa_cons (pv 5) pa_nil)) (pg_name (i := 7) sc_law.nd rfl (.inl rfl))
      (pss_one (ps_expr (pe_bm PySem.F.plainAttrs_list PySem.F.slot_list_append PySem.F.type_list_append mt_append (pv 6) (pa_cons (pe_call (ok_law_span T) (hr.mono (by decide)) (by rfl) T.d_law_span.g T.d_law_span.F.kp T.d_law_span.b .nil pass0 (pa_cons (pv 2) (pa_cons (pv 3) (pa_cons (pv 6) pa_nil)))) pa_nil)))))
      (pss_cons (ps_set (i := 8) sc_law.nd rfl (.inl rfl) (pe_lst (pa_cons (pe_callTy call_list_of (by rfl) T.m_list (by decide +kernel) (pa_cons (pv 6) pa_nil)) (pa_cons (pe_callTy call_tuple_of (by rfl) T.m_tuple (by decide +kernel) (pa_cons (pv 6) pa_nil)) pa_nil))))
      (pss_cons (ps_set (i := 9) sc_law.nd rfl (.inl rfl) (pe_call (ok_stretches T) (hr.mono (by decide)) (by rfl) T.d_stretches.g T.d_stretches.F.kp T.d_stretches.b .nil pass0 (pa_cons (pe_ix ix_list (pv 8) pe_int (fun _ _ => rfl)) (pa_cons (pv 4) pa_nil))))
      (pss_cons (ps_set (i := 10) sc_law.nd rfl (.inl rfl) (pe_call (ok_stretchesT T) (hr.mono (by decide)) (by rfl) T.d_stretches.g T.d_stretches.F.kp T.d_stretches.b .nil pass0 (pa_cons (pe_ix ix_list (pv 8) pe_int (fun _ _ => rfl)) (pa_cons (pv 4) pa_nil))))
      (pss_cons (ps_if (PW.pt (pw_or (pt_not (pt_val (pe_call (ok_law_rising T) (hr.mono (by decide)) (by rfl) T.d_law_rising.g T.d_law_rising.F.kp T.d_law_rising.b .nil pass0 (pa_cons (pv 9) (pa_cons (pv 4) pa_nil))))) (pw_or1 (pt_not (pt_val (pe_call (ok_law_rising T) (hr.mono (by decide)) (by rfl) T.d_law_rising.g T.d_law_rising.F.kp T.d_law_rising.b .nil pass0 (pa_cons (pv 10) (pa_cons (pv 4) pa_nil))))))))
      (pss_one (ps_ret pe_bl))
      pss_nil)
      (pss_cons (ps_if (PW.pt (pw_or (pt_cmpR (op_neD hr.units) (pv 10) (pv 9) (nomark _)) (pw_or1 (pt_cmpR (op_neD hr.units) (pv 8) (pe_lst (pa_cons (pv 6) (pa_cons (pe_callTy call_tuple_of (by rfl) T.m_tuple (by decide +kernel) (pa_cons (pv 6) pa_nil)) pa_nil))) (nomark _)))))
      (pss_one (ps_ret pe_bl))
      pss_nil)
      (pss_one (ps_for PassesOwn.never rfl (pi_list (pe_call (ok_law_places T) (hr.mono (by decide)) (by rfl) T.d_law_places.g T.d_law_places.F.kp T.d_law_places.b .nil pass0 (pa_cons (pv 6) (pa_cons (pv 9) (pa_cons (pv 4) pa_nil))))) (pg_name (i := 11) sc_law.nd rfl (.inr rfl))
      (pss_cons (ps_setLc (i := 12) (own := [("_law_span_here", 14)]) (g := gName 14) (by rfl) sc_law.nd rfl rfl (sw_true rfl rfl rfl (by decide +kernel)) (pi_list (pv 6)) (blkOk_by (own := [("_law_span_here", 14)]) (N := ["_law_script", "_law_cell", "_law_well_here", "_law_far", "_law_size", "_law_many", "_law_spans", "_law_k", "_law_handed", "_law_found", "_law_other", "_law_at", "_law_due", "_law_told", "_law_span_here", "_law_one"]) (sc := defScope s_law) (by decide +kernel)) (fun _ _ _ _ _ => (pg_name (i := 14) sc_law.nd rfl (Or.inl rfl))) (fun _ _ _ _ _ => (pts_one (pt_val (pe_call (ok_law_tells T) (hr.mono (by decide)) (by rfl) T.d_law_tells.g T.d_law_tells.F.kp T.d_law_tells.b .nil pass0 (pa_cons (pv 14) (pa_cons (pv 11) (pa_cons (pv 4) pa_nil))))))) (fun _ _ _ _ _ => (pv 14)))
      (pss_cons (ps_setLc (i := 13) (own := [("_law_one", 15)]) (g := gName 15) (tt := tTest (tChain (rI0 fun i j => .bl (decide (i ≤ j))) (rI0 fun i j => .bl (decide (i < j))) (tOp (rIxT K) (tVar 15) (tC (.int 0))) (tVar 11) (tOp (rIxT K) (tVar 15) (tC (.int 1))))) (by rfl) sc_law.nd rfl rfl (sw_true rfl rfl rfl (by decide +kernel)) (pi_list (pv 9)) (blkOk_by (own := [("_law_one", 15)]) (N := ["_law_script", "_law_cell", "_law_well_here", "_law_far", "_law_size", "_law_many", "_law_spans", "_law_k", "_law_handed", "_law_found", "_law_other", "_law_at", "_law_due", "_law_told", "_law_span_here", "_law_one"]) (sc := defScope s_law) (by decide +kernel)) (fun _ _ _ _ _ => (pg_name (i := 15) sc_law.nd rfl (Or.inl rfl))) (fun _ _ _ _ _ => (pts_one (pt_chain op_le op_lt (pe_ix ix_tup (pv 15) pe_int (fun _ _ => rfl)) (pv 11) (pe_ix ix_tup (pv 15) pe_int (fun _ _ => rfl))))) (fun _ _ _ _ _ => (pv 15)))
      (pss_one (ps_if (pt_cmpR op_ne (pe_or (pe_cmpR (op_neD hr.units) (pv 12) (pe_lst pa_nil) (nomark _)) (pe_one (pe_cmpR (op_eqD hr.units) (pv 6) (pe_lst pa_nil) (nomark _)))) (pe_cmpR (op_neD hr.units) (pv 13) (pe_lst pa_nil) (nomark _)) (nomark _))
      (pss_one (ps_ret pe_bl))
      pss_nil))))))))))))))))))
      (pss_one (ps_ret pe_bl))), ?_⟩
    obtain ⟨ms, em, lm⟩ := cutV_map V.int ns none (some 16)
    refine ⟨.ref a, rfl, 16, rfl, a, _, rfl, hS, fun p1 h1 => ⟨(by show 3 ≤ sizeLine; decide), fun p2 h2 => ?_⟩⟩
    refine ⟨p1, p2, _, _, rfl, rfl, (same_upd h2) _ _ upd_same, upd_same, by rw [em, List.length_map]; exact szl (by show ms.length + 3 ≤ _; omega), fun p3 h3 => ?_⟩
    have ec : cutV (ns.map V.int) none (some 16) ++ [.int 0, .int 8, .int 19] = (ms ++ [0, 8, 19]).map V.int := by
      rw [em, List.map_append]
      rfl
    rw [ec]
    refine ⟨p3, rfl, ⟨_, SqL.of upd_same⟩, for_list (K := K) (a := p3) (xs := (ms ++ [0, 8, 19]).map V.int) (fun i σ H' => H' p3 = some (.lst ((ms ++ [0, 8, 19]).map V.int)) ∧ ∃ y1 y2 y3 y4 y5 y6 y7 y8 y9 y10 y11 y12 y13, σ = [some (.ref a), y1, y2, y3, y4, y5, y6, y7, y8, y9, y10, y11, y12, y13, none, none])
      ⟨upd_same, none, none, none, none, none, none, none, none, none, none, none, none, none, rfl⟩ (fun i σ H' _ pv => SqL.of pv.1) ?_ ?_⟩
    · rintro i x σ H0 hx ⟨e30, y1, y2, y3, y4, y5, y6, y7, y8, y9, y10, y11, y12, y13, rfl⟩
      obtain ⟨n, rfl⟩ := int_at hx
      refine ⟨.int n, rfl, n, rfl, fun W wa wb wc hW => ?_⟩
      have hI0 : IsW (upd H0 W (W3 wa wb wc)) W := ⟨wa, wb, wc, upd_same⟩
      have nWp : p3 ≠ W := ne_of_none e30 hW
      have e30' : (upd H0 W (W3 wa wb wc)) p3 = some (.lst ((ms ++ [0, 8, 19]).map V.int)) := (same_upd hW) _ _ e30
      -- far
      refine ⟨.ref W, rfl, W, rfl, hI0, fun g H1 g0 g1 x1 => ?_⟩
      refine ⟨.ref W, rfl, W, 4, rfl, by decide, by decide, x1.well, fun r2 H2 _ _ x2 => ⟨rfl, .inr ⟨_, rfl, g, _, rfl, rfl, .inr (by split <;> decide), ?_⟩⟩⟩
      have f0' : 0 ≤ g * (if decide (V.int r2 = V.int 0) = true then 1 else 0) := Int.mul_nonneg g0 (by split <;> decide)
      generalize hv : (fun i j : Int => V.int (i * j)) g (if decide (V.int r2 = V.int 0) = true then 1 else 0) = vfar
      obtain ⟨far, f0', rfl⟩ : ∃ far : Int, 0 ≤ far ∧ vfar = .int far := ⟨_, f0', hv.symm⟩
      have x12 := x1.trans x2
      -- size
      refine ⟨_, rfl, far, 1, rfl, rfl, _, rfl, .ref W, rfl, W, 61, rfl, by decide, by decide, x2.well, fun r3 H3 r30 _ x3 => ⟨far, r3, rfl, rfl, _, rfl, .ref W, rfl, W, 61, rfl, by decide, by decide, x3.well, fun r4 H4 r40 _ x4 => ⟨far, r4, rfl, rfl, (by show 4 ≤ sizeLine; decide), fun p5 h5 => ?_⟩⟩⟩
      have x14 := (x12.trans x3).trans x4
      have x5 := x14.new (o := .lst (([0, far + 1, far + r3, far + r4] : List Int).map V.int)) h5
      refine ⟨.ref W, rfl, W, 4, rfl, by decide, by decide, x5.well, fun r6 H6 r60 r61 x6 => ?_⟩
      obtain ⟨size, hsz, esz⟩ := ints_at (ns := [0, far + 1, far + r3, far + r4]) r60 r61
      have z0 : 0 ≤ size := by
        simp only [List.mem_cons, List.not_mem_nil, or_false] at hsz
        rcases hsz with rfl | rfl | rfl | rfl <;> omega
      refine ⟨p5, _, r6, _, rfl, rfl, SqL.of (x6.keep p5 _ (x4.well.ne h5).symm upd_same), esz, ?_⟩
      have x16 := x5.trans x6
      -- many
      refine ⟨.ref W, rfl, W, 9, rfl, by decide, by decide, x6.well, fun m H7 m0 m1 x7 => ?_⟩
      have x17 := x16.trans x7
      have e37 := x17.keep _ _ nWp e30'
      refine ⟨Nat.zero_le _, fun L hL => ?_⟩
      have nWL : W ≠ L := x7.well.ne hL
      have nLp : p3 ≠ L := ne_of_none e37 hL
      refine ⟨.int m, rfl, m, rfl, by omega, by omega, for_range (lo := 0) (n := m.toNat) (fun j σ H' => Wx W H7 H' ∧ ∃ (xs : List V) (sps : List Spn) (y7 : Option V), H' L = some (.lst xs) ∧ Paired (PS2 H') xs sps ∧ (∀ sp ∈ sps, good5 sp) ∧ sps.length = j ∧ σ = [some (.ref a), some (.int n), some (.ref W), some (.int far), some (.int size), some (.int m), some (.ref L), y7, y8, y9, y10, y11, y12, y13, none, none])
        ⟨(Wx.refl x7.well).new hL, [], [], _, upd_same, .nil, (fun _ h => nomatch h), rfl, rfl⟩ ?_ ?_⟩
      · rintro j σ H8 hj ⟨x8, xs, sps, z7, eL, hxs, hg, ls, rfl⟩
        refine ⟨.ref L, rfl, .inl ⟨rfl, _, SqL.of eL⟩, .ref W, rfl, _, rfl, .ref L, rfl, W, L, far, xs, sps, rfl, f0', x8.well, eL, nWL, hxs, hg, by omega, fun v sp H9 hgs x9 hv => ?_⟩
        have eL9 := x9.keep _ _ nWL.symm eL
        refine ⟨L, _, _, rfl, rfl, eL9, by rw [Paired.length hxs]; exact szlt (by omega), (x8.trans x9).mut hL nWL, xs ++ [v], sps ++ [sp], _, upd_same, ps2s_upd eL9 (fun _ z => by cases z) (paired_app (ps2s_wx x8.well x9 hxs) (.cons hv .nil)), ?_, by rw [List.length_append, ls]; rfl, rfl⟩
        intro s hs
        rcases List.mem_append.mp hs with h | h
        · exact hg s h
        · rw [List.mem_singleton.mp h]
          exact hgs
      · rintro σ H8 ⟨x8, xs, sps, z7, eL, hxs, hg, ls, rfl⟩
        have e38 := x8.keep _ _ nWp e37
        obtain ⟨k1, k2, k3⟩ := strT_ok (size := size) z0 hg
        have kl := strT_len sps size
        -- handed
        refine ⟨.ref L, rfl, L, _, rfl, .inl (SqL.of eL), fun l hl => ?_⟩
        have s9 := same_upd (o := .lst xs) hl
        refine ⟨.ref L, rfl, L, _, rfl, .inl ⟨SqL.of (s9 _ _ eL), fun tp htp => ⟨(by show 2 ≤ sizeLine; decide), fun hd hhd => ?_⟩⟩⟩
        have s10 := same_upd (o := .tup xs) htp
        have s11 := same_upd (o := .lst [.ref l, .ref tp]) hhd
        have t11 := (s9.trans s10).trans s11
        have el11 := s11 _ _ (s10 _ _ (show (upd H8 l (.lst xs)) l = some (.lst xs) from upd_same))
        have et11 := s11 _ _ (show (upd (upd H8 l (.lst xs)) tp (.tup xs)) tp = some (.tup xs) from upd_same)
        have i0 : atI [V.ref l, V.ref tp] 0 = some (.ref l) := rfl
        have i1 : atI [V.ref l, V.ref tp] 1 = some (.ref tp) := rfl
        refine ⟨.ref hd, rfl, hd, _, 0, _, rfl, rfl, SqL.of upd_same, i0, _, rfl, l, xs, sps, size, rfl, el11, ps2s_mono t11 hxs, hg, by omega, fun pf yf H12 s12 hpf hyf => ?_⟩
        refine ⟨.ref hd, rfl, hd, _, 1, _, rfl, rfl, SqL.of (s12 _ _ upd_same), i1, _, rfl, tp, xs, sps, size, rfl, s12 _ _ et11, ps2s_mono (t11.trans s12) hxs, hg, by omega, fun po yo H13 s13 hpo hyo => ?_⟩
        have t13 := (t11.trans s12).trans s13
        have hpf13 := s13 _ _ hpf
        have hyf13 := ps2s_mono s13 hyf
        -- rising
        refine ⟨.ref pf, rfl, _, rfl, pf, yf, _, size, rfl, hpf13, hyf13, k1, k2, true, rfl, ?_⟩
        refine ⟨.ref po, rfl, _, rfl, po, yo, _, size, rfl, hpo, hyo, k1, k2, true, rfl, ?_⟩
        -- alike
        refine ⟨.ref po, rfl, .ref pf, rfl, .list (((strT sps size).map iv).map sd), .list (((strT sps size).map iv).map sd), .lst (SqL.of hpo) (dp_sps hyo), .lst (SqL.of hpf13) (dp_sps hyf13), shaped_sps _, shaped_sps _, false, by rw [eqv_sps]; rfl, ?_⟩
        refine ⟨.ref hd, rfl, .ref L, rfl, .ref L, rfl, L, _, rfl, .inl ⟨SqL.of (t13 _ _ eL), fun tp2 htp2 => ⟨(by show 2 ≤ sizeLine; decide), fun h3' hh3 => ?_⟩⟩⟩
        have s14 := same_upd (o := .tup xs) htp2
        have s15 := same_upd (o := .lst [.ref L, .ref tp2]) hh3
        have t15 := s14.trans s15
        have u15 := t13.trans t15
        have hx15 := ps2s_mono u15 hxs
        refine ⟨.list [.list (sps.map sd), .tuple (sps.map sd)], .list [.list (sps.map sd), .tuple (sps.map sd)], .lst (SqL.of (t15 _ _ (s13 _ _ (s12 _ _ upd_same)))) (.cons (.lst (SqL.of (t15 _ _ (s13 _ _ (s12 _ _ el11)))) (dp_sps hx15)) (.cons (.tup (SqT.of (t15 _ _ (s13 _ _ (s12 _ _ et11)))) (dp_sps hx15)) .nil)), .lst (SqL.of upd_same) (.cons (.lst (SqL.of (u15 _ _ eL)) (dp_sps hx15)) (.cons (.tup (SqT.of (s15 _ _ upd_same)) (dp_sps hx15)) .nil)), shaped_two _, shaped_two _, false, by rw [eqv_two]; rfl, ?_⟩
        have hpf15 := t15 _ _ hpf13
        have hyf15 := ps2s_mono t15 hyf13
        -- the places
        refine ⟨.ref L, rfl, .ref pf, rfl, _, rfl, L, pf, size, xs, yf, sps, (strT sps size).map iv, rfl, u15 _ _ eL, hpf15, hx15, hyf15, by omega, by rw [List.length_map]; omega, fun pp pl H16 s16 hpp hpl => ?_⟩
        have u16 := u15.trans s16
        have eL16 := u16 _ _ eL
        have hx16 := ps2s_mono u16 hxs
        have hpf16 := s16 _ _ hpf15
        have hyf16 := ps2s_mono s16 hyf15
        refine ⟨pp, rfl, ⟨_, SqL.of hpp⟩, for_list (K := K) (a := pp) (xs := pl.map V.int) (fun j σ H' => Same H16 H' ∧ ∃ y11 y12 y13, σ = [some (.ref a), some (.int n), some (.ref W), some (.int far), some (.int size), some (.int m), some (.ref L), z7, some (.ref hd), some (.ref pf), some (.ref po), y11, y12, y13, none, none]) ⟨Same.refl _, _, _, _, rfl⟩ (fun j σ H' _ pv => SqL.of (pv.1 _ _ hpp)) ?_ ?_⟩
        · rintro j v σ H17 hv ⟨s17, u11, u12, u13, rfl⟩
          obtain ⟨x, rfl⟩ := int_at hv
          have hxin : x ∈ pl := by
            have := List.mem_of_getElem? hv
            obtain ⟨y, hy, e⟩ := List.mem_map.mp this
            cases e
            exact hy
          obtain ⟨x0, x1'⟩ := hpl x hxin
          have eL17 := s17 _ _ eL16
          have hx17 := ps2s_mono s17 hx16
          have lx : xs.length = sps.length := Paired.length hxs
          refine ⟨.ref L, rfl, L, rfl, ⟨_, SqL.of eL17⟩, fun D hD => ?_⟩
          refine lc_list (K := K) (a := L) (xs := xs) (fun j H' => Same H17 H' ∧ ∃ zs, H' D = some (.lst zs) ∧ Paired (PS2 H') zs ((sps.take j).filter (tells size x))) ⟨same_upd hD, [], upd_same, .nil⟩ (fun j H' _ pv => SqL.of (pv.1 _ _ eL17)) ?_ ?_
          · rintro j v H18 hj ⟨s18, zs, eD, hzs⟩
            obtain ⟨sp, hsp, hp⟩ := paired_at hx17 hj
            have hf : (sps.take (j + 1)).filter (tells size x) = (sps.take j).filter (tells size x) ++ (if tells size x sp = true then [sp] else []) := by
              have := filter_take (tells size x) id hsp
              simpa using this
            refine ⟨rfl, v, rfl, .int x, rfl, _, rfl, v, sp, x, size, rfl, hp.mono s18, hg sp (List.mem_of_getElem? hsp), _, rfl, ite2 (fun e => ?_) (fun e => ?_)⟩
            · rw [if_pos e] at hf
              have hzl := Paired.length hzs
              have h5 := List.length_filter_le (tells size x) (sps.take j)
              rw [List.length_take] at h5
              refine ⟨v, rfl, zs, eD, szlt (by omega), same_mut s18 hD, zs ++ [v], upd_same, ?_⟩
              rw [hf]
              exact ps2s_upd eD (fun _ z => by cases z) (paired_app hzs (.cons (hp.mono s18) .nil))
            · rw [if_neg e, List.append_nil] at hf
              exact ⟨s18, zs, eD, by rw [hf]; exact hzs⟩
          · rintro H18 ⟨s18, zs, eD, hzs⟩
            rw [lx, List.take_length] at hzs
            have hpf18 := s18 _ _ (s17 _ _ hpf16)
            have hyf18 := ps2s_mono (s17.trans s18) hyf16
            have lyf : yf.length = (strT sps size).length := (Paired.length hyf).trans (List.length_map ..)
            refine ⟨.ref pf, rfl, pf, rfl, ⟨_, SqL.of hpf18⟩, fun D2 hD2 => ?_⟩
            refine lc_list (K := K) (a := pf) (xs := yf) (fun j H' => Same H18 H' ∧ ∃ zs2, H' D2 = some (.lst zs2) ∧ Paired (PS2 H') zs2 ((((strT sps size).take j).filter fun p => decide (p.1 ≤ x) && decide (x < p.2)).map iv)) ⟨same_upd hD2, [], upd_same, .nil⟩ (fun j H' _ pv => SqL.of (pv.1 _ _ hpf18)) ?_ ?_
            · rintro j v H19 hj ⟨s19, zs2, eD2, hzs2⟩
              obtain ⟨sp, hsp, hp⟩ := paired_at hyf18 hj
              rw [List.getElem?_map] at hsp
              cases hk : (strT sps size)[j]? with
              | none =>
                rw [hk] at hsp
                cases hsp
              | some p =>
                rw [hk] at hsp
                cases hsp
                have hf := filter_take (fun p : Int × Int => decide (p.1 ≤ x) && decide (x < p.2)) iv hk
                have hp19 := hp.mono s19
                obtain ⟨t, rfl, ht⟩ := id hp19
                have j0 : atI [V.int p.1, V.int p.2] 0 = some (.int p.1) := rfl
                have j1 : atI [V.int p.1, V.int p.2] 1 = some (.int p.2) := rfl
                have hzl := Paired.length hzs2
                rw [List.length_map] at hzl
                have h5 := List.length_filter_le (fun p : Int × Int => decide (p.1 ≤ x) && decide (x < p.2)) ((strT sps size).take j)
                rw [List.length_take] at h5
                refine ⟨rfl, .ref t, rfl, t, _, 0, _, rfl, rfl, SqT.of ht, j0, .int x, rfl, p.1, x, rfl, rfl, _, rfl, ite2 (fun e => ?_) (fun e => ?_)⟩
                · refine ⟨.ref t, rfl, t, _, 1, _, rfl, rfl, SqT.of ht, j1, x, p.2, rfl, rfl, _, rfl, ite2 (fun e2 => ?_) (fun e2 => ?_)⟩
                  · rw [e, e2, Bool.and_self, if_pos rfl] at hf
                    refine ⟨_, rfl, zs2, eD2, szlt (by omega), same_mut s19 hD2, zs2 ++ [.ref t], upd_same, ?_⟩
                    rw [hf]
                    exact ps2s_upd eD2 (fun _ z => by cases z) (paired_app hzs2 (.cons hp19 .nil))
                  · rw [e, show decide (x < p.2) = false by simpa using e2, Bool.and_false, if_neg Bool.false_ne_true, List.append_nil] at hf
                    exact ⟨s19, zs2, eD2, by rw [hf]; exact hzs2⟩
                · rw [show decide (p.1 ≤ x) = false by simpa using e, Bool.false_and, if_neg Bool.false_ne_true, List.append_nil] at hf
                  exact ⟨false, rfl, s19, zs2, eD2, by rw [hf]; exact hzs2⟩
            · rintro H19 ⟨s19, zs2, eD2, hzs2⟩
              rw [lyf, List.take_length] at hzs2
              have eD19 := s19 _ _ eD
              have hzs19 := ps2s_mono s19 hzs
              have eL19 := s19 _ _ (s18 _ _ eL17)
              have hx19 := ps2s_mono (s18.trans s19) hx17
              -- the check
              have hiff : (((sps.filter (tells size x)).map sd).isEmpty = false ∨ (sps.map sd).isEmpty = true) ↔ ((((strT sps size).filter fun p => decide (p.1 ≤ x) && decide (x < p.2)).map iv).map sd).isEmpty = false := by
                rw [isEmpty_map, isEmpty_map, isEmpty_map, isEmpty_map, isE, isE]
                have c := k3 x x0 x1'
                constructor
                · intro h
                  have : cov (strT sps size) x := c.mpr (by
                    rcases h with ⟨sp, hsp⟩ | h
                    · obtain ⟨h1, h2⟩ := List.mem_filter.mp hsp
                      exact .inr ⟨sp, h1, h2⟩
                    · exact .inl (List.isEmpty_iff.mp h))
                  obtain ⟨u, hu, h1, h2⟩ := this
                  exact ⟨u, List.mem_filter.mpr ⟨hu, by simp [h1, h2]⟩⟩
                · rintro ⟨u, hu⟩
                  obtain ⟨h1, h2⟩ := List.mem_filter.mp hu
                  simp only [Bool.and_eq_true, decide_eq_true_eq] at h2
                  rcases c.mp ⟨u, h1, h2⟩ with h | ⟨sp, h3, h4⟩
                  · exact .inr (List.isEmpty_iff.mpr h)
                  · exact .inl ⟨sp, List.mem_filter.mpr ⟨h3, h4⟩⟩
              refine ⟨.ref D, rfl, Nat.zero_le _, fun p20 h20 => ?_⟩
              have s20 := same_upd (o := .lst []) h20
              refine ⟨.list ((sps.filter (tells size x)).map sd), .list [], .lst (SqL.of (s20 _ _ eD19)) (dp_sps (ps2s_mono s20 hzs19)), .lst (SqL.of upd_same) .nil, shaped_sps _, by decide, _, rfl, ?_⟩
              rw [eqv_nil]
              -- told != []
              have fin : ∀ (H21 : Hp) (b : Bool), Same H19 H21 → b = !((((strT sps size).filter fun p => decide (p.1 ≤ x) && decide (x < p.2)).map iv).map sd).isEmpty → ∀ p22, H21 p22 = none → decide (V.bl b = V.bl (!PyData.eqv (.list ((((strT sps size).filter fun p => decide (p.1 ≤ x) && decide (x < p.2)).map iv).map sd)) (.list []))) = true := by
                intro H21 b _ hb p22 _
                rw [eqv_nil, ← hb]
                exact decide_eq_true rfl
              refine ite2 (fun e => ?_) (fun e => ?_)
              · refine ⟨.ref D2, rfl, Nat.zero_le _, fun p22 h22 => ?_⟩
                have s22 := same_upd (o := .lst []) h22
                refine ⟨_, .list [], .lst (SqL.of (s22 _ _ (s20 _ _ eD2))) (dp_sps (ps2s_mono (s20.trans s22) hzs2)), .lst (SqL.of upd_same) .nil, shaped_sps _, by decide, rfl, false, ?_, (((s17.trans s18).trans s19).trans s20).trans s22, _, _, _, rfl⟩
                have hb : true = !((((strT sps size).filter fun p => decide (p.1 ≤ x) && decide (x < p.2)).map iv).map sd).isEmpty := by
                  rw [hiff.mp (.inl (by simpa using e))]
                  rfl
                rw [fin _ true s20 hb p22 h22]
                rfl
              · refine ⟨.ref L, rfl, Nat.zero_le _, fun p21 h21 => ?_⟩
                have s21 := same_upd (o := .lst []) h21
                have s19_21 := s20.trans s21
                refine ⟨.list (sps.map sd), .list [], .lst (SqL.of (s19_21 _ _ eL19)) (dp_sps (ps2s_mono s19_21 hx19)), .lst (SqL.of upd_same) .nil, shaped_sps _, by decide, ?_⟩
                refine ⟨.ref D2, rfl, Nat.zero_le _, fun p22 h22 => ?_⟩
                have s22 := same_upd (o := .lst []) h22
                refine ⟨_, .list [], .lst (SqL.of (s22 _ _ (s19_21 _ _ eD2))) (dp_sps (ps2s_mono (s19_21.trans s22) hzs2)), .lst (SqL.of upd_same) .nil, shaped_sps _, by decide, rfl, false, ?_, (((s17.trans s18).trans s19).trans s19_21).trans s22, _, _, _, rfl⟩
                have hb : PyData.eqv (.list (sps.map sd)) (.list []) = !((((strT sps size).filter fun p => decide (p.1 ≤ x) && decide (x < p.2)).map iv).map sd).isEmpty := by
                  rw [eqv_nil]
                  have e' : ((sps.filter (tells size x)).map sd).isEmpty = true := by simpa using e
                  cases h1 : (sps.map sd).isEmpty with
                  | true =>
                    rw [hiff.mp (.inr h1)]
                    rfl
                  | false =>
                    cases h2 : ((((strT sps size).filter fun p => decide (p.1 ≤ x) && decide (x < p.2)).map iv).map sd).isEmpty with
                    | true => rfl
                    | false =>
                      rcases hiff.mpr h2 with h | h
                      · rw [e'] at h
                        cases h
                      · rw [h1] at h
                        cases h
                rw [fin _ _ s19_21 hb p22 h22]
                rfl
        · rintro σ H17 ⟨s17, u11, u12, u13, rfl⟩
          exact ⟨s17 _ _ (u16 _ _ e38), _, _, _, _, _, _, _, _, _, _, _, _, _, rfl⟩
    · rintro σ H1 ⟨e3, y1, y2, y3, y4, y5, y6, y7, y8, y9, y10, y11, y12, y13, rfl⟩
      exact q _
end
theorem all_mk {l : PySem.W.OpenLaw} {w : World} {K : PySem.W.Frag} {h : Heap} {mg : Str → Option Value} {fa : Addr} (X : K.In h) (G : h.Ns mainGlobals mg) (hfa : mg "law" = some (.ref fa))
    {f0 : Addr} {od0 an0 : Option Addr} {sl0 : Array (Option Value)} {oc0 kV0 dc0 pm0 cd0 ct0 : Value}
    (a0 : PySem.W.nsIn K mainGlobals "stretches" = some (some (.ref f0))) (l0 : K.lookup f0 = some ⟨oc0, od0, .func (PySem.W.fnOf "stretches" "stretches" (defArgs s_stretches) (defBody s_stretches) (defScope s_stretches) .none kV0 dc0 pm0 an0 cd0 ct0), sl0⟩) (c0 : PySem.W.codeIn K cd0 "stretches" = true) (k0 : PySem.W.keepIn K (.ref f0) = true)
    {f1 : Addr} {od1 an1 : Option Addr} {sl1 : Array (Option Value)} {oc1 kV1 dc1 pm1 cd1 ct1 : Value}
    (a1 : PySem.W.nsIn K mainGlobals "within" = some (some (.ref f1))) (l1 : K.lookup f1 = some ⟨oc1, od1, .func (PySem.W.fnOf "within" "within" (defArgs s_within) (defBody s_within) (defScope s_within) .none kV1 dc1 pm1 an1 cd1 ct1), sl1⟩) (c1 : PySem.W.codeIn K cd1 "within" = true) (k1 : PySem.W.keepIn K (.ref f1) = true)
    {f2 : Addr} {od2 an2 : Option Addr} {sl2 : Array (Option Value)} {oc2 kV2 dc2 pm2 cd2 ct2 : Value}
    (a2 : PySem.W.nsIn K mainGlobals "merged" = some (some (.ref f2))) (l2 : K.lookup f2 = some ⟨oc2, od2, .func (PySem.W.fnOf "merged" "merged" (defArgs s_merged) (defBody s_merged) (defScope s_merged) .none kV2 dc2 pm2 an2 cd2 ct2), sl2⟩) (c2 : PySem.W.codeIn K cd2 "merged" = true) (k2 : PySem.W.keepIn K (.ref f2) = true)
    {f3 : Addr} {od3 an3 : Option Addr} {sl3 : Array (Option Value)} {oc3 kV3 dc3 pm3 cd3 ct3 : Value}
    (a3 : PySem.W.nsIn K mainGlobals "_law_well" = some (some (.ref f3))) (l3 : K.lookup f3 = some ⟨oc3, od3, .func (PySem.W.fnOf "_law_well" "_law_well" (defArgs s_law_well) (defBody s_law_well) (defScope s_law_well) .none kV3 dc3 pm3 an3 cd3 ct3), sl3⟩) (c3 : PySem.W.codeIn K cd3 "_law_well" = true) (k3 : PySem.W.keepIn K (.ref f3) = true)
    {f4 : Addr} {od4 an4 : Option Addr} {sl4 : Array (Option Value)} {oc4 kV4 dc4 pm4 cd4 ct4 : Value}
    (a4 : PySem.W.nsIn K mainGlobals "_law_draw" = some (some (.ref f4))) (l4 : K.lookup f4 = some ⟨oc4, od4, .func (PySem.W.fnOf "_law_draw" "_law_draw" (defArgs s_law_draw) (defBody s_law_draw) (defScope s_law_draw) .none kV4 dc4 pm4 an4 cd4 ct4), sl4⟩) (c4 : PySem.W.codeIn K cd4 "_law_draw" = true) (k4 : PySem.W.keepIn K (.ref f4) = true)
    {f5 : Addr} {od5 an5 : Option Addr} {sl5 : Array (Option Value)} {oc5 kV5 dc5 pm5 cd5 ct5 : Value}
    (a5 : PySem.W.nsIn K mainGlobals "_law_great" = some (some (.ref f5))) (l5 : K.lookup f5 = some ⟨oc5, od5, .func (PySem.W.fnOf "_law_great" "_law_great" (defArgs s_law_great) (defBody s_law_great) (defScope s_law_great) .none kV5 dc5 pm5 an5 cd5 ct5), sl5⟩) (c5 : PySem.W.codeIn K cd5 "_law_great" = true) (k5 : PySem.W.keepIn K (.ref f5) = true)
    {f6 : Addr} {od6 an6 : Option Addr} {sl6 : Array (Option Value)} {oc6 kV6 dc6 pm6 cd6 ct6 : Value}
    (a6 : PySem.W.nsIn K mainGlobals "_law_span" = some (some (.ref f6))) (l6 : K.lookup f6 = some ⟨oc6, od6, .func (PySem.W.fnOf "_law_span" "_law_span" (defArgs s_law_span) (defBody s_law_span) (defScope s_law_span) .none kV6 dc6 pm6 an6 cd6 ct6), sl6⟩) (c6 : PySem.W.codeIn K cd6 "_law_span" = true) (k6 : PySem.W.keepIn K (.ref f6) = true)
    {f7 : Addr} {od7 an7 : Option Addr} {sl7 : Array (Option Value)} {oc7 kV7 dc7 pm7 cd7 ct7 : Value}
    (a7 : PySem.W.nsIn K mainGlobals "_law_tells" = some (some (.ref f7))) (l7 : K.lookup f7 = some ⟨oc7, od7, .func (PySem.W.fnOf "_law_tells" "_law_tells" (defArgs s_law_tells) (defBody s_law_tells) (defScope s_law_tells) .none kV7 dc7 pm7 an7 cd7 ct7), sl7⟩) (c7 : PySem.W.codeIn K cd7 "_law_tells" = true) (k7 : PySem.W.keepIn K (.ref f7) = true)
    {f8 : Addr} {od8 an8 : Option Addr} {sl8 : Array (Option Value)} {oc8 kV8 dc8 pm8 cd8 ct8 : Value}
    (a8 : PySem.W.nsIn K mainGlobals "_law_whole" = some (some (.ref f8))) (l8 : K.lookup f8 = some ⟨oc8, od8, .func (PySem.W.fnOf "_law_whole" "_law_whole" (defArgs s_law_whole) (defBody s_law_whole) (defScope s_law_whole) .none kV8 dc8 pm8 an8 cd8 ct8), sl8⟩) (c8 : PySem.W.codeIn K cd8 "_law_whole" = true) (k8 : PySem.W.keepIn K (.ref f8) = true)
    {f9 : Addr} {od9 an9 : Option Addr} {sl9 : Array (Option Value)} {oc9 kV9 dc9 pm9 cd9 ct9 : Value}
    (a9 : PySem.W.nsIn K mainGlobals "_law_rising" = some (some (.ref f9))) (l9 : K.lookup f9 = some ⟨oc9, od9, .func (PySem.W.fnOf "_law_rising" "_law_rising" (defArgs s_law_rising) (defBody s_law_rising) (defScope s_law_rising) .none kV9 dc9 pm9 an9 cd9 ct9), sl9⟩) (c9 : PySem.W.codeIn K cd9 "_law_rising" = true) (k9 : PySem.W.keepIn K (.ref f9) = true)
    {f10 : Addr} {od10 an10 : Option Addr} {sl10 : Array (Option Value)} {oc10 kV10 dc10 pm10 cd10 ct10 : Value}
    (a10 : PySem.W.nsIn K mainGlobals "_law_places" = some (some (.ref f10))) (l10 : K.lookup f10 = some ⟨oc10, od10, .func (PySem.W.fnOf "_law_places" "_law_places" (defArgs s_law_places) (defBody s_law_places) (defScope s_law_places) .none kV10 dc10 pm10 an10 cd10 ct10), sl10⟩) (c10 : PySem.W.codeIn K cd10 "_law_places" = true) (k10 : PySem.W.keepIn K (.ref f10) = true)
    {f11 : Addr} {od11 an11 : Option Addr} {sl11 : Array (Option Value)} {oc11 kV11 dc11 pm11 cd11 ct11 : Value}
    (a11 : PySem.W.nsIn K mainGlobals "law" = some (some (.ref f11))) (l11 : K.lookup f11 = some ⟨oc11, od11, .func (PySem.W.fnOf "law" "law" (defArgs s_law) (defBody s_law) (defScope s_law) .none kV11 dc11 pm11 an11 cd11 ct11), sl11⟩) (c11 : PySem.W.codeIn K cd11 "law" = true) (k11 : PySem.W.keepIn K (.ref f11) = true)
    (z_bool : PySem.W.nsIn K mainGlobals "bool" = some none)
    (z_int : PySem.W.nsIn K mainGlobals "int" = some none)
    (z_isinstance : PySem.W.nsIn K mainGlobals "isinstance" = some none)
    (z_len : PySem.W.nsIn K mainGlobals "len" = some none)
    (z_list : PySem.W.nsIn K mainGlobals "list" = some none)
    (z_max : PySem.W.nsIn K mainGlobals "max" = some none)
    (z_min : PySem.W.nsIn K mainGlobals "min" = some none)
    (z_range : PySem.W.nsIn K mainGlobals "range" = some none)
    (z_sorted : PySem.W.nsIn K mainGlobals "sorted" = some none)
    (z_tuple : PySem.W.nsIn K mainGlobals "tuple" = some none)
    : ∃ fd : FuncData, (∀ (s : Shared) (v : Value), BindsTo s fd ⟨[v], []⟩ [("_law_script", v)]) ∧ ∀ base : Heap, K.In base → base.Ns mainGlobals mg → FnOk l.prog w K mg base CX0 3 fa fd ["_law_script"] (spLaw K) := by
  have e := hfa.symm.trans (PySem.W.mg_of X G a11)
  cases e
  have F0 := fun_mk (st := s_stretches) l0 c0 k0
  have F1 := fun_mk (st := s_within) l1 c1 k1
  have F2 := fun_mk (st := s_merged) l2 c2 k2
  have F3 := fun_mk (st := s_law_well) l3 c3 k3
  have F4 := fun_mk (st := s_law_draw) l4 c4 k4
  have F5 := fun_mk (st := s_law_great) l5 c5 k5
  have F6 := fun_mk (st := s_law_span) l6 c6 k6
  have F7 := fun_mk (st := s_law_tells) l7 c7 k7
  have F8 := fun_mk (st := s_law_whole) l8 c8 k8
  have F9 := fun_mk (st := s_law_rising) l9 c9 k9
  have F10 := fun_mk (st := s_law_places) l10 c10 k10
  have F11 := fun_mk (st := s_law) l11 c11 k11
  let T : Txt K mg := {
    f_stretches := f0, fd_stretches := _, d_stretches := ⟨F0, F0.binds (ps := ["spans", "size"]) (fun _ _ _ _ _ _ us hl => match us, hl with | [_, _], _ => rfl), PySem.W.mg_of X G a0⟩,
    f_within := f1, fd_within := _, d_within := ⟨F1, F1.binds (ps := ["span", "size"]) (fun _ _ _ _ _ _ us hl => match us, hl with | [_, _], _ => rfl), PySem.W.mg_of X G a1⟩,
    f_merged := f2, fd_merged := _, d_merged := ⟨F2, F2.binds (ps := ["pairs"]) (fun _ _ _ _ _ _ us hl => match us, hl with | [_], _ => rfl), PySem.W.mg_of X G a2⟩,
    f_law_well := f3, fd_law_well := _, d_law_well := ⟨F3, F3.binds (ps := ["_law_cell"]) (fun _ _ _ _ _ _ us hl => match us, hl with | [_], _ => rfl), PySem.W.mg_of X G a3⟩,
    f_law_draw := f4, fd_law_draw := _, d_law_draw := ⟨F4, F4.binds (ps := ["_law_well_here", "_law_many"]) (fun _ _ _ _ _ _ us hl => match us, hl with | [_, _], _ => rfl), PySem.W.mg_of X G a4⟩,
    f_law_great := f5, fd_law_great := _, d_law_great := ⟨F5, F5.binds (ps := ["_law_well_here"]) (fun _ _ _ _ _ _ us hl => match us, hl with | [_], _ => rfl), PySem.W.mg_of X G a5⟩,
    f_law_span := f6, fd_law_span := _, d_law_span := ⟨F6, F6.binds (ps := ["_law_well_here", "_law_far", "_law_known"]) (fun _ _ _ _ _ _ us hl => match us, hl with | [_, _, _], _ => rfl), PySem.W.mg_of X G a6⟩,
    f_law_tells := f7, fd_law_tells := _, d_law_tells := ⟨F7, F7.binds (ps := ["_law_span_here", "_law_at", "_law_size"]) (fun _ _ _ _ _ _ us hl => match us, hl with | [_, _, _], _ => rfl), PySem.W.mg_of X G a7⟩,
    f_law_whole := f8, fd_law_whole := _, d_law_whole := ⟨F8, F8.binds (ps := ["_law_number"]) (fun _ _ _ _ _ _ us hl => match us, hl with | [_], _ => rfl), PySem.W.mg_of X G a8⟩,
    f_law_rising := f9, fd_law_rising := _, d_law_rising := ⟨F9, F9.binds (ps := ["_law_found", "_law_size"]) (fun _ _ _ _ _ _ us hl => match us, hl with | [_, _], _ => rfl), PySem.W.mg_of X G a9⟩,
    f_law_places := f10, fd_law_places := _, d_law_places := ⟨F10, F10.binds (ps := ["_law_spans", "_law_found", "_law_size"]) (fun _ _ _ _ _ _ us hl => match us, hl with | [_, _, _], _ => rfl), PySem.W.mg_of X G a10⟩,
    f_law := fa, fd_law := _, d_law := ⟨F11, F11.binds (ps := ["_law_script"]) (fun _ _ _ _ _ _ us hl => match us, hl with | [_], _ => rfl), PySem.W.mg_of X G a11⟩,
    m_bool := PySem.W.mg_none_of X G z_bool,
    m_int := PySem.W.mg_none_of X G z_int,
    m_isinstance := PySem.W.mg_none_of X G z_isinstance,
    m_len := PySem.W.mg_none_of X G z_len,
    m_list := PySem.W.mg_none_of X G z_list,
    m_max := PySem.W.mg_none_of X G z_max,
    m_min := PySem.W.mg_none_of X G z_min,
    m_range := PySem.W.mg_none_of X G z_range,
    m_sorted := PySem.W.mg_none_of X G z_sorted,
    m_tuple := PySem.W.mg_none_of X G z_tuple
  }
  exact ⟨T.fd_law, fun s v => .of_eq rfl, fun base _ _ => ok_law T⟩
end My
open PySem PySem.W PyProof.Rows
set_option maxHeartbeats 0 in
theorem PySem.Challenge.cw_pagelodge_k05_stretches_of_spans_holds : PySem.Challenge.rw_pagelodge_k05_stretches_of_spans.Holds := by
  w_on; o_law; k_head; (case hw => w_witness2)
  k_fill
  refine L2.walk_of (l := PySem.Challenge.rw_pagelodge_k05_stretches_of_spans) (n := 63) (k := 3) (x := "_law_script") (CX := fun _ => L2.CX0) (sp := fun w => My.spLaw _) rfl (by decide) rfl ⟨rfl, by decide, by decide⟩ (fun w h Y => PySem.W.kIn_of Y) ?F (fun _ _ a ns hl _ hS => ⟨a, ns, rfl, hS, hl, fun _ => rfl⟩) (fun _ _ _ _ _ h => h)
  case F =>
    intro w mg fa h KX G hmg
    refine' My.all_mk KX G hmg ?a0 ?l0 ?c0 ?k0 ?a1 ?l1 ?c1 ?k1 ?a2 ?l2 ?c2 ?k2 ?a3 ?l3 ?c3 ?k3 ?a4 ?l4 ?c4 ?k4 ?a5 ?l5 ?c5 ?k5 ?a6 ?l6 ?c6 ?k6 ?a7 ?l7 ?c7 ?k7 ?a8 ?l8 ?c8 ?k8 ?a9 ?l9 ?c9 ?k9 ?a10 ?l10 ?c10 ?k10 ?a11 ?l11 ?c11 ?k11 ?z_bool ?z_int ?z_isinstance ?z_len ?z_list ?z_max ?z_min ?z_range ?z_sorted ?z_tuple
    (case a0 => k_is)
    (case l0 => k_is)
    (case c0 => k_is)
    (case k0 => k_is)
    (case a1 => k_is)
    (case l1 => k_is)
    (case c1 => k_is)
    (case k1 => k_is)
    (case a2 => k_is)
    (case l2 => k_is)
    (case c2 => k_is)
    (case k2 => k_is)
    (case a3 => k_is)
    (case l3 => k_is)
    (case c3 => k_is)
    (case k3 => k_is)
    (case a4 => k_is)
    (case l4 => k_is)
    (case c4 => k_is)
    (case k4 => k_is)
    (case a5 => k_is)
    (case l5 => k_is)
    (case c5 => k_is)
    (case k5 => k_is)
    (case a6 => k_is)
    (case l6 => k_is)
    (case c6 => k_is)
    (case k6 => k_is)
    (case a7 => k_is)
    (case l7 => k_is)
    (case c7 => k_is)
    (case k7 => k_is)
    (case a8 => k_is)
    (case l8 => k_is)
    (case c8 => k_is)
    (case k8 => k_is)
    (case a9 => k_is)
    (case l9 => k_is)
    (case c9 => k_is)
    (case k9 => k_is)
    (case a10 => k_is)
    (case l10 => k_is)
    (case c10 => k_is)
    (case k10 => k_is)
    (case a11 => k_is)
    (case l11 => k_is)
    (case c11 => k_is)
    (case k11 => k_is)
    (case z_bool => k_is)
    (case z_int => k_is)
    (case z_isinstance => k_is)
    (case z_len => k_is)
    (case z_list => k_is)
    (case z_max => k_is)
    (case z_min => k_is)
    (case z_range => k_is)
    (case z_sorted => k_is)
    (case z_tuple => k_is)
