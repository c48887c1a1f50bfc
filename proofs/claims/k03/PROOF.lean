import PyProof.Rows.All
import Wide.All
import OpenK.AllK
import Wide.FinOn
import HandS.ForMost
import HandS.IsInst
import HandS.Walk
import HandS.Style
import HandS.Evl
import KE.SortData
import HandS.FStr
import PySem.Challenge.RW_pagelodge_k03_spans_written
set_option Elab.async false
set_option linter.all false
set_option maxRecDepth 100000
set_option maxHeartbeats 4000000
namespace My
open PySem PySem.Spec PyProof.Rows L2 TL
/-- xs == [], xs != []: items of any kind -/
def rEqNil (K : PySem.W.Frag) : R2 := fun x y H Q => ∃ p q xs, x = .ref p ∧ y = .ref q ∧ SqL K H p xs ∧ SqL K H q [] ∧ Q (.bl xs.isEmpty) H
section
variable {X : Cx}
theorem op_eqNil (hu : X.A.units + 64 < cLine) : OpR X (compareOp .Eq) (rEqNil X.K) := by
  intro pins s σ H x y v u Q I rx ry h
  obtain ⟨p, q, xs, rfl, rfl, h1, h2, k⟩ := h
  obtain ⟨its, rv, hl, _⟩ := I.list h1
  obtain ⟨its2, rv2, hl2, _⟩ := I.list h2
  cases (show v = Value.ref p from rx)
  cases (show u = Value.ref q from ry)
  cases rv2
  cases rv with
  | nil => exact SeqAt.eq_listAt (e := fun _ => true) hl.isList hl2.isList rfl (by omega) (fun j h1 _ => absurd h1 (by simp)) ⟨.bl true, H, I, rfl, k⟩
  | cons a b => exact SeqAt.eq_list_lengthsAt hl.isList hl2.isList (by simp) (by omega) ⟨.bl false, H, I, rfl, k⟩
end
/-! ### heaps that change at the well alone -/
def W3 (a b c : Int) : HO := .lst [.int a, .int b, .int c]
def IsW (H : Hp) (W : Addr) : Prop := ∃ a b c, H W = some (W3 a b c)
structure Wx (W : Addr) (H H' : Hp) : Prop where
  keep : ∀ b o, b ≠ W → H b = some o → H' b = some o
  well : IsW H' W
theorem Wx.refl {W : Addr} {H : Hp} (h : IsW H W) : Wx W H H := ⟨fun _ _ _ e => e, h⟩
theorem Wx.trans {W : Addr} {H H1 H2 : Hp} (a : Wx W H H1) (b : Wx W H1 H2) : Wx W H H2 := ⟨fun c o n e => b.keep c o n (a.keep c o n e), b.well⟩
theorem Wx.free {W : Addr} {H H' : Hp} (e : Wx W H H') {p : Addr} (h : H' p = none) : H p = none := by
  cases q : H p with
  | none => rfl
  | some o =>
    by_cases hp : p = W
    · obtain ⟨a, b, c, hw⟩ := e.well
      rw [hp, hw] at h
      cases h
    · rw [e.keep p o hp q] at h
      cases h
theorem Wx.new {W : Addr} {H H' : Hp} (e : Wx W H H') {p : Addr} {o : HO} (h : H' p = none) : Wx W H (upd H' p o) := by
  obtain ⟨k, a, b, c, hw⟩ := e
  refine ⟨fun d u n q => ?_, a, b, c, ?_⟩
  · rw [upd_ne (ne_of_none (k d u n q) h)]
    exact k d u n q
  · rw [upd_ne (ne_of_none hw h)]
    exact hw
theorem Wx.set {W : Addr} {H H' : Hp} (e : Wx W H H') (a b c : Int) : Wx W H (upd H' W (W3 a b c)) := by
  refine ⟨fun d u n q => ?_, a, b, c, upd_same⟩
  rw [upd_ne n]
  exact e.keep d u n q
theorem IsW.ne {H : Hp} {W p : Addr} (h : IsW H W) (hp : H p = none) : W ≠ p := by
  obtain ⟨a, b, c, hw⟩ := h
  exact ne_of_none hw hp
theorem Wx.same {W : Addr} {H H1 H2 : Hp} (a : Wx W H H1) (b : Same H1 H2) : Wx W H H2 := by
  obtain ⟨k, x, y, z, hw⟩ := a
  exact ⟨fun c o n e => b c o (k c o n e), x, y, z, b _ _ hw⟩
/-- a list (other than the well) that is made here may change -/
theorem Wx.mut {W : Addr} {H H' : Hp} (e : Wx W H H') {p : Addr} {o : HO} (h : H p = none) (n : W ≠ p) : Wx W H (upd H' p o) := by
  obtain ⟨k, a, b, c, hw⟩ := e
  refine ⟨fun d u m q => ?_, a, b, c, ?_⟩
  · rw [upd_ne (ne_of_none q h)]
    exact k d u m q
  · rw [upd_ne n]
    exact hw
def spWell : Sp := fun vs H Q _ => ∃ n : Int, vs = [.int n] ∧ ∀ p a b c, H p = none → Q (.ref p) (upd H p (W3 a b c))
def spDraw : Sp := fun vs H Q _ => ∃ (W : Addr) (m : Int), vs = [.ref W, .int m] ∧ 0 < m ∧ m < 1073741824 ∧ IsW H W ∧ ∀ r H', 0 ≤ r → r < m → Wx W H H' → Q (.int r) H'
theorem mod_lt {n m : Int} (h : 0 < m) : 0 ≤ n % m ∧ n % m < m := ⟨Int.emod_nonneg n (by omega), Int.emod_lt_of_pos n h⟩
theorem cmul_of {i j : Int} (h : 0 ≤ i ∧ i < 2147483647) : CMul i j := .inl (by omega)
/-! ### texts and lists -/
theorem atI_in {α : Type} {xs : List α} {r : Int} (h0 : 0 ≤ r) (h1 : r < xs.length) : ∃ c, c ∈ xs ∧ atI xs r = some c := by
  obtain ⟨n, rfl⟩ : ∃ n : Nat, r = n := ⟨r.toNat, by omega⟩
  have hn : n < xs.length := by omega
  exact ⟨xs[n], List.getElem_mem hn, atI_nat (List.getElem?_eq_getElem hn)⟩
theorem len_tl (z : Str) : z.cps.toList.length = z.length := Array.length_toList
theorem joinL_one : ∀ t : List Nat, joinL [] (t.map fun c => [c]) = t
  | [] => rfl
  | [c] => rfl
  | c :: d :: r => by
    show [c] ++ ([] ++ joinL [] ((d :: r).map fun c => [c])) = c :: d :: r
    rw [joinL_one (d :: r)]
    rfl
theorem join_signs (y : Str) (hy : y.cps.toList = []) (t : List Nat) : Txt.join y (t.map fun c => (⟨#[c]⟩ : Str)) = ⟨t.toArray⟩ := by
  have e : tl (Txt.join y (t.map fun c => (⟨#[c]⟩ : Str))) = t := by
    rw [join_eq, tl_join, List.map_map]
    show joinL (y.cps.toList) (t.map fun c => [c]) = t
    rw [hy, joinL_one]
  rw [← mk_tl (Txt.join y (t.map fun c => (⟨#[c]⟩ : Str))), e]
theorem joinL_len (S : List Nat) : ∀ ps : List (List Nat), (joinL S ps).length ≤ (ps.map List.length).sum + ps.length * S.length
  | [] => Nat.zero_le _
  | [p] => by
    show p.length ≤ p.length + 0 + 1 * S.length
    omega
  | p :: q :: r => by
    have ih := joinL_len S (q :: r)
    show (p ++ (S ++ joinL S (q :: r))).length ≤ p.length + ((q :: r).map List.length).sum + ((q :: r).length + 1) * S.length
    rw [List.length_append, List.length_append, Nat.add_mul]
    omega
theorem join_len (y : Str) (ps : List Str) : (Txt.join y ps).length ≤ (ps.map (·.length)).sum + ps.length * y.length := by
  have h := joinL_len (tl y) (ps.map tl)
  rw [← tl_join, ← join_eq, List.map_map, List.length_map] at h
  have e : (ps.map (List.length ∘ tl)) = ps.map (·.length) := List.map_congr_left fun z _ => len_tl z
  rw [e] at h
  have e2 : (tl (Txt.join y ps)).length = (Txt.join y ps).length := len_tl _
  have e3 : (tl y).length = y.length := len_tl _
  rw [e2, e3] at h
  exact h
theorem sum_ones (t : List Nat) : ((t.map fun c => (⟨#[c]⟩ : Str)).map (·.length)).sum = t.length := by
  induction t with
  | nil => rfl
  | cons c r ih =>
    show 1 + ((r.map fun c => (⟨#[c]⟩ : Str)).map (·.length)).sum = r.length + 1
    rw [ih]
    omega
theorem sum_le {b : Nat} : ∀ ps : List Str, (∀ z ∈ ps, z.length ≤ b) → (ps.map (·.length)).sum ≤ ps.length * b
  | [], _ => Nat.zero_le _
  | z :: r, h => by
    have ih := sum_le r fun y hy => h y (List.mem_cons_of_mem _ hy)
    have hz := h z (List.mem_cons_self ..)
    show z.length + (r.map (·.length)).sum ≤ (r.length + 1) * b
    rw [Nat.add_mul]
    omega
theorem len_app (a b : Str) : (a ++ b).length = a.length + b.length := Array.size_append
theorem cutS_len (z : Str) (lo hi : Option Int) : (cutS z lo hi).length ≤ z.length := by
  show ((z.cps.toList.drop _).take _).toArray.size ≤ _
  rw [List.size_toArray, List.length_take, List.length_drop, len_tl]
  omega
theorem szl {n : Nat} (h : n ≤ 100000) : n ≤ sizeLine := Nat.le_trans h (by decide)
theorem szlt {n : Nat} (h : n < 100000) : n < sizeLine := Nat.lt_of_lt_of_le h (by decide)
def spSigns : Sp := fun vs H Q _ => ∃ (W : Addr) (z : Str) (m : Int), vs = [.ref W, .str z, .int m] ∧ 0 < z.length ∧ z.length ≤ 1000 ∧ 0 ≤ m ∧ m ≤ 1000 ∧ IsW H W ∧
  ∀ (t : List Nat) H', t.length = m.toNat → (∀ c ∈ t, c ∈ z.cps.toList) → Wx W H H' → Q (.str ⟨t.toArray⟩) H'
theorem ints_at {ns : List Int} {r : Int} (h0 : 0 ≤ r) (h1 : r < ns.length) : ∃ n, n ∈ ns ∧ atI (ns.map V.int) r = some (.int n) := by
  obtain ⟨v, hv, ev⟩ := atI_in (xs := ns.map V.int) h0 (by rw [List.length_map]; exact h1)
  obtain ⟨n, hn, rfl⟩ := List.mem_map.mp hv
  exact ⟨n, hn, ev⟩
theorem strs_at {ns : List Str} {r : Int} (h0 : 0 ≤ r) (h1 : r < ns.length) : ∃ n, n ∈ ns ∧ atI (ns.map V.str) r = some (.str n) := by
  obtain ⟨v, hv, ev⟩ := atI_in (xs := ns.map V.str) h0 (by rw [List.length_map]; exact h1)
  obtain ⟨n, hn, rfl⟩ := List.mem_map.mp hv
  exact ⟨n, hn, ev⟩
theorem mk_len (t : List Nat) : (⟨t.toArray⟩ : Str).length = t.length := List.size_toArray
def spText (b : Nat) : Sp := fun vs H Q _ => ∃ (W : Addr), vs = [.ref W] ∧ IsW H W ∧ ∀ t H', t.length ≤ b → Wx W H H' → Q (.str t) H'
theorem same_upd {H : Hp} {p : Addr} {o : HO} (h : H p = none) : Same H (upd H p o) := fun b x e => by
  rw [upd_ne (ne_of_none e h)]
  exact e
theorem same_mut {H H' : Hp} {p : Addr} {o : HO} (e : Same H H') (h : H p = none) : Same H (upd H' p o) := fun a u ha => by
  rw [upd_ne (ne_of_none ha h)]
  exact e a u ha
theorem take_map {α β : Type} {xs : List α} {i : Nat} {c : α} (f : α → β) (h : xs[i]? = some c) : (xs.take (i + 1)).map f = (xs.take i).map f ++ [f c] := by
  rw [List.take_add_one, h, List.map_append]
  rfl
theorem at_l {z : Str} {i c : Nat} (h : z.cps[i]? = some c) : z.cps.toList[i]? = some c := by
  rw [Array.getElem?_toList]
  exact h
theorem filter_take {α β : Type} {xs : List α} {i : Nat} {c : α} (p : α → Bool) (f : α → β) (h : xs[i]? = some c) : ((xs.take (i + 1)).filter p).map f = ((xs.take i).filter p).map f ++ (if p c = true then [f c] else []) := by
  rw [List.take_add_one, h, List.filter_append, List.map_append]
  by_cases hp : p c = true
  · rw [if_pos hp]
    simp [hp]
  · rw [if_neg hp]
    simp [hp]
theorem all_filter {α : Type} (p : α → Bool) (xs : List α) : ((xs.filter fun c => !p c)).isEmpty = xs.all p := by
  induction xs with
  | nil => rfl
  | cons a r ih =>
    cases h : p a with
    | true => simp only [List.filter_cons, h, List.all_cons, Bool.not_true, Bool.true_and]; exact ih
    | false => simp [List.filter_cons, h, List.all_cons]
theorem isEmpty_map {α β : Type} (f : α → β) (xs : List α) : (xs.map f).isEmpty = xs.isEmpty := by
  cases xs <;> rfl
theorem str_at {ss : List Str} {i : Nat} {x : V} (h : (ss.map V.str)[i]? = some x) : ∃ y, x = .str y ∧ ss[i]? = some y ∧ y ∈ ss := by
  rw [List.getElem?_map] at h
  cases e : ss[i]? with
  | none =>
    rw [e] at h
    cases h
  | some y =>
    rw [e] at h
    cases h
    exact ⟨y, rfl, rfl, List.mem_of_getElem? e⟩
theorem cutV_map {α : Type} (f : α → V) (ns : List α) (lo hi : Option Int) : ∃ ms : List α, cutV (ns.map f) lo hi = ms.map f ∧ ms.length ≤ ns.length := by
  refine ⟨(ns.drop (HT.sIx ns.length 0 lo)).take (HT.sIx ns.length ns.length hi - HT.sIx ns.length 0 lo), ?_, ?_⟩
  · unfold cutV
    rw [List.length_map, List.map_take, List.map_drop]
  · rw [List.length_take, List.length_drop]
    omega
theorem int_at {ns : List Int} {i : Nat} {x : V} (h : (ns.map V.int)[i]? = some x) : ∃ n, x = .int n := by
  rw [List.getElem?_map] at h
  cases e : ns[i]? with
  | none =>
    rw [e] at h
    cases h
  | some y =>
    rw [e] at h
    cases h
    exact ⟨y, rfl⟩
theorem dp_bools {K : PySem.W.Frag} {H : Hp} : ∀ bs : List Bool, DpAll K H (bs.map V.bl) (bs.map PyData.bool)
  | [] => .nil
  | b :: r => .cons (.bl b) (dp_bools r)
theorem lay_bools : ∀ bs : List Bool, PyData.canLayAll0 (bs.map PyData.bool) = true
  | [] => rfl
  | _ :: r => by simp [PyData.canLayAll0, PyData.canLay0, lay_bools r]
theorem depth_bools : ∀ bs : List Bool, PyData.depthAll (bs.map PyData.bool) = 0
  | [] => rfl
  | _ :: r => by simp [PyData.depthAll, PyData.depth, depth_bools r]
theorem shaped_bools (bs : List Bool) : SeqAt.shaped (.list (bs.map PyData.bool)) = true := by
  simp [SeqAt.shaped, PyData.canLay0, PyData.depth, lay_bools, depth_bools]
theorem eqv_bools (bs : List Bool) : PyData.eqv (.list (bs.map PyData.bool)) (.list (bs.map PyData.bool)) = true := SeqAt.eqv_refl _ (by simp [PyData.canLay0, lay_bools])
def spLaw (K : PySem.W.Frag) : Sp := fun vs H Q _ => ∃ (a : Addr) (ns : List Int), vs = [.ref a] ∧ SqL K H a (ns.map V.int) ∧ ns.length ≤ 63 ∧ ∀ H', Q (.bl true) H'
/-! ### sorted(xs) of data that are alike, any length: the items by letters of a type B, their values, their data -/
section
variable {B : Type} {val : B → V} {enc : B → PyData}
theorem vals_each : ∀ {bs : List B} {us : List Value}, Vals (bs.map val) us → PySem.W.EachIs (fun u b => RelV (val b) u) us bs
  | [], _, r => by
    cases r
    exact .nil
  | b :: bs, _, r => by
    cases r with
    | cons h t => exact .cons h (vals_each t)
theorem each_vals : ∀ {bs : List B} {us : List Value}, PySem.W.EachIs (fun u b => RelV (val b) u) us bs → Vals (bs.map val) us
  | _, _, .nil => .nil
  | _, _, .cons h t => .cons h (each_vals t)
theorem each_reads {X : Cx} {pins : List (Addr × Obj)} {σ : L2.St} {H : Hp} {s : Shared} (I : Inv X pins σ H s) : ∀ {bs : List B} {us : List Value}, (∀ b ∈ bs, Dp X.K H (val b) (enc b)) → PySem.W.EachIs (fun u b => RelV (val b) u) us bs → PySem.W.EachIs (fun u b => ∃ as, Reads s.heap u (enc b) as) us bs
  | _, _, _, .nil => .nil
  | _, _, hd, .cons h t => .cons (Dp.reads I _ _ _ (hd _ (List.mem_cons_self ..)) h) (each_reads I (fun b hb => hd b (List.mem_cons_of_mem _ hb)) t)
def sortB (enc : B → PyData) (bs : List B) : List B := bs.mergeSort (PySem.W.dataLe false enc)
def rSortB (K : PySem.W.Frag) (val : B → V) (enc : B → PyData) : List V → Hp → VK → Prop := fun vs H Q => ∃ (a : Addr) (bs : List B), vs = [V.ref a] ∧ SqL K H a (bs.map val) ∧ (∀ b ∈ bs, Dp K H (val b) (enc b)) ∧ PySem.W.AllAlike (bs.map enc) ∧ PySem.W.Sortable (bs.map enc) ∧
  (∀ b ∈ bs, (enc b).depth ≤ 60) ∧ ∀ p, H p = none → Q (.ref p) (upd H p (.lst ((sortB enc bs).map val)))
theorem cr_sortB {X : Cx} (val : B → V) (enc : B → PyData) (hu : X.A.units + 64 < cLine) : CallR X (.builtin "sorted") (rSortB X.K val enc) := by
  intro pins s σ H vs us Q I r h
  obtain ⟨a, bs, rfl, hs, hd, ha, hk, hdp, q⟩ := h
  obtain ⟨its, rv, hl, hz⟩ := I.list hs
  rw [Vals.ref1 r]
  have e1 := vals_each rv
  rw [List.length_map] at hz
  refine PySem.W.sorted_data (enc := enc) hl.isList e1 (each_reads I hd e1) ha hk hz (fun b hb => by have := hdp b hb; omega) fun out ho eo => ?_
  obtain ⟨ep, he'⟩ := PyProof.Rows.sortedAll_at s.heap its out.toArray
  have hlen : ((sortB enc bs).map val).length ≤ sizeLine := by
    rw [List.length_map]
    unfold sortB
    rw [List.length_mergeSort]
    exact hz
  exact ⟨.ref _, upd H (s.heap.objs.size + 1) (.lst ((sortB enc bs).map val)), I.laid (t' := s.toks) (fun _ _ => PyProof.Rows.sortedAll_old) (Nat.le_succ _) ⟨hlen, out, ep, each_vals eo, he'⟩, rfl, q _ (I.hok.fresh (Nat.le_succ _))⟩
theorem sortB_perm (enc : B → PyData) (bs : List B) : (sortB enc bs).Perm bs := List.mergeSort_perm ..
theorem sortB_sorted (enc : B → PyData) (bs : List B) : (sortB enc bs).Pairwise fun a b => PySem.W.dataLe false enc a b = true := PySem.W.sort_pairwise (PySem.W.sortLe_total _ _ _) bs
end
theorem perm_sorted_eq {α : Type} {r : α → α → Prop} (anti : ∀ a b, r a b → r b a → a = b) : ∀ A B : List α, A.Pairwise r → B.Pairwise r → A.Perm B → A = B
  | [], B, _, _, h => (List.Perm.nil_eq h)
  | a :: A, [], _, _, h => absurd h.length_eq (by simp)
  | a :: A, b :: B, ha, hb, h => by
    have e : a = b := by
      rcases List.mem_cons.mp (h.mem_iff.mp (List.mem_cons_self ..)) with e | e
      · exact e
      · rcases List.mem_cons.mp (h.mem_iff.mpr (List.mem_cons_self ..)) with e' | e'
        · exact e'.symm
        · exact anti a b ((List.pairwise_cons.mp ha).1 b e') ((List.pairwise_cons.mp hb).1 a e)
    subst e
    rw [perm_sorted_eq anti A B (List.pairwise_cons.mp ha).2 (List.pairwise_cons.mp hb).2 (List.Perm.cons_inv h)]
/-! ### pairs of texts, in order -/
def ltS (a b : Str) : Prop := a.cps.toList < b.cps.toList
instance (a b : Str) : Decidable (ltS a b) := inferInstanceAs (Decidable (a.cps.toList < b.cps.toList))
theorem ltS_irr (a : Str) : ¬ ltS a a := List.lt_irrefl _
theorem ltS_trans {a b c : Str} (h : ltS a b) (h2 : ltS b c) : ltS a c := List.lt_trans h h2
theorem ltS_tri (a b : Str) : ltS a b ∨ a = b ∨ ltS b a := by
  by_cases h : ltS a b
  · exact .inl h
  · by_cases h2 : ltS b a
    · exact .inr (.inr h2)
    · exact .inr (.inl (PyProof.Rows.ext_toList (List.le_antisymm (List.not_lt.mp h2) (List.not_lt.mp h))))
def leSS (p q : Str × Str) : Prop := ltS p.1 q.1 ∨ (p.1 = q.1 ∧ ¬ ltS q.2 p.2)
theorem leSS_anti (p q : Str × Str) (h : leSS p q) (h2 : leSS q p) : p = q := by
  obtain ⟨a, b⟩ := p
  obtain ⟨c, d⟩ := q
  rcases h with h | ⟨e, h⟩
  · rcases h2 with h2 | ⟨e2, h2⟩
    · exact absurd (ltS_trans h h2) (ltS_irr _)
    · have e2' : c = a := e2
      subst e2'
      exact absurd h (ltS_irr _)
  · have e' : a = c := e
    subst e'
    rcases h2 with h2 | ⟨e2, h2⟩
    · exact absurd h2 (ltS_irr _)
    · rcases ltS_tri b d with x | x | x
      · exact absurd x h2
      · rw [x]
      · exact absurd x h
theorem dataLe_ss {B : Type} (x y : B → Str) (p q : B) (h : PySem.W.dataLe false (fun b => .tuple [.str (x b), .str (y b)]) p q = true) : leSS (x p, y p) (x q, y q) := by
  have e : PySem.W.dataLt (.tuple [.str (x q), .str (y q)]) (.tuple [.str (x p), .str (y p)]) = false := by
    have h' : (!PySem.W.dataLt (.tuple [.str (x q), .str (y q)]) (.tuple [.str (x p), .str (y p)])) = true := h
    simpa using h'
  rw [PySem.W.dataLt_pair (by simp [PySem.W.alike]) (by simp [PySem.W.alike]), PySem.W.dataLt_str, PySem.W.dataLt_str] at e
  simp only [PyData.eqv, beq_iff_eq] at e
  by_cases h1 : x q = x p
  · rw [if_pos h1] at e
    by_cases h2 : y q = y p
    · refine .inr ⟨h1.symm, fun z => ?_⟩
      have z' : ltS (y q) (y p) := z
      rw [h2] at z'
      exact ltS_irr _ z'
    · rw [if_neg h2] at e
      exact .inr ⟨h1.symm, of_decide_eq_false e⟩
  · rw [if_neg h1] at e
    rcases ltS_tri (x p) (x q) with z | z | z
    · exact .inl z
    · exact absurd z.symm h1
    · exact absurd z (of_decide_eq_false e)
end My
namespace My
open PySem PySem.Spec PyProof.Rows L2 TL
def Asc (z : Str) : Prop := ∀ c ∈ z.cps.toList, c < 128
instance (z : Str) : Decidable (Asc z) := inferInstanceAs (Decidable (∀ c ∈ z.cps.toList, c < 128))
theorem asc_mk {t : List Nat} (h : ∀ c ∈ t, c < 128) : Asc ⟨t.toArray⟩ := fun c hc => h c (by simpa using hc)
theorem asc_app {a b : Str} (ha : Asc a) (hb : Asc b) : Asc (a ++ b) := by
  intro c hc
  have e : (a ++ b).cps.toList = a.cps.toList ++ b.cps.toList := Array.toList_append
  rw [e] at hc
  rcases List.mem_append.mp hc with h | h
  · exact ha c h
  · exact hb c h
theorem asc_cut {z : Str} (h : Asc z) (lo hi : Option Int) : Asc (cutS z lo hi) := by
  refine asc_mk fun c hc => h c ?_
  exact List.mem_of_mem_drop (List.mem_of_mem_take hc)
theorem inV_strs (x : Str) (F : List Str) : inV (.str x) (F.map V.str) = decide (x ∈ F) := by
  unfold inV
  rw [List.any_map, Bool.eq_iff_iff, List.any_eq_true, decide_eq_true_iff]
  constructor
  · rintro ⟨y, hy, e⟩
    have e' : (y == x) = true := e
    rw [← eq_of_beq e']
    exact hy
  · intro h
    exact ⟨x, h, by show (x == x) = true; exact beq_self_eq_true x⟩
theorem flat_strs (F : List Str) : (F.map V.str).all flatV = true := by
  rw [List.all_map, List.all_eq_true]
  intro x _
  rfl
/-! ### texts as data -/
theorem dp_strs {K : PySem.W.Frag} {H : Hp} : ∀ F : List Str, DpAll K H (F.map V.str) (F.map PyData.str)
  | [] => .nil
  | b :: r => .cons (.str b) (dp_strs r)
theorem ok_asc {z : Str} (h : Asc z) : PyData.strOk z = true := by
  unfold PyData.strOk
  rw [Array.all_eq_true']
  intro c hc
  have : c < 128 := h c (by simpa using hc)
  exact decide_eq_true (by omega)
theorem lay_strs : ∀ F : List Str, (∀ z ∈ F, Asc z) → PyData.canLayAll0 (F.map PyData.str) = true
  | [], _ => rfl
  | z :: r, h => by simp [PyData.canLayAll0, PyData.canLay0, ok_asc (h z (List.mem_cons_self ..)), lay_strs r fun y hy => h y (List.mem_cons_of_mem _ hy)]
theorem depth_strs : ∀ F : List Str, PyData.depthAll (F.map PyData.str) = 0
  | [] => rfl
  | _ :: r => by simp [PyData.depthAll, PyData.depth, depth_strs r]
theorem shaped_strs (F : List Str) (h : ∀ z ∈ F, Asc z) : SeqAt.shaped (.list (F.map PyData.str)) = true := by
  simp [SeqAt.shaped, PyData.canLay0, PyData.depth, lay_strs F h, depth_strs]
end My
namespace My
open PySem PySem.Spec PyProof.Rows L2 TL
def topS (i : Nat) : Stmt := PySem.Challenge.pw_pagelodge_k03_spans_written.main.body.getD i (.Pass ⟨0, 0, 0, 0⟩)
abbrev s_is_made_of : Stmt := topS 6
theorem sc_is_made_of : FnScope ["text", "signs", "least", "most", "sign"] ["text", "signs", "least", "most"] (defScope s_is_made_of) := ⟨rfl, rfl, rfl, by decide +kernel, rfl, by decide +kernel, by decide +kernel⟩
abbrev s_is_figures : Stmt := topS 7
theorem sc_is_figures : FnScope ["text"] ["text"] (defScope s_is_figures) := ⟨rfl, rfl, rfl, by decide +kernel, rfl, by decide +kernel, by decide +kernel⟩
abbrev s_read_spans : Stmt := topS 9
theorem sc_read_spans : FnScope ["text", "spans", "at", "piece", "span"] ["text"] (defScope s_read_spans) := ⟨rfl, rfl, rfl, by decide +kernel, rfl, by decide +kernel, by decide +kernel⟩
abbrev s_span_told : Stmt := topS 10
theorem sc_span_told : FnScope ["piece", "low", "dots", "high", "start", "stop"] ["piece"] (defScope s_span_told) := ⟨rfl, rfl, rfl, by decide +kernel, rfl, by decide +kernel, by decide +kernel⟩
abbrev s_is_end : Stmt := topS 11
theorem sc_is_end : FnScope ["text"] ["text"] (defScope s_is_end) := ⟨rfl, rfl, rfl, by decide +kernel, rfl, by decide +kernel, by decide +kernel⟩
abbrev s_end_told : Stmt := topS 12
theorem sc_end_told : FnScope ["text"] ["text"] (defScope s_end_told) := ⟨rfl, rfl, rfl, by decide +kernel, rfl, by decide +kernel, by decide +kernel⟩
abbrev s_are_ends : Stmt := topS 13
theorem sc_are_ends : FnScope ["start", "stop"] ["start", "stop"] (defScope s_are_ends) := ⟨rfl, rfl, rfl, by decide +kernel, rfl, by decide +kernel, by decide +kernel⟩
abbrev s_show_spans : Stmt := topS 14
theorem sc_show_spans : FnScope ["spans", "start", "stop"] ["spans"] (defScope s_show_spans) := ⟨rfl, rfl, rfl, by decide +kernel, rfl, by decide +kernel, by decide +kernel⟩
abbrev s_end_shown : Stmt := topS 15
theorem sc_end_shown : FnScope ["end"] ["end"] (defScope s_end_shown) := ⟨rfl, rfl, rfl, by decide +kernel, rfl, by decide +kernel, by decide +kernel⟩
abbrev s_law_well : Stmt := topS 17
theorem sc_law_well : FnScope ["_law_cell"] ["_law_cell"] (defScope s_law_well) := ⟨rfl, rfl, rfl, by decide +kernel, rfl, by decide +kernel, by decide +kernel⟩
abbrev s_law_draw : Stmt := topS 18
theorem sc_law_draw : FnScope ["_law_well_here", "_law_many", "_law_found", "_law_number"] ["_law_well_here", "_law_many"] (defScope s_law_draw) := ⟨rfl, rfl, rfl, by decide +kernel, rfl, by decide +kernel, by decide +kernel⟩
abbrev s_law_great : Stmt := topS 19
theorem sc_law_great : FnScope ["_law_well_here", "_law_found", "_law_k"] ["_law_well_here"] (defScope s_law_great) := ⟨rfl, rfl, rfl, by decide +kernel, rfl, by decide +kernel, by decide +kernel⟩
abbrev s_law_span : Stmt := topS 20
theorem sc_law_span : FnScope ["_law_well_here", "_law_kind", "_law_lot", "_law_low", "_law_wide"] ["_law_well_here"] (defScope s_law_span) := ⟨rfl, rfl, rfl, by decide +kernel, rfl, by decide +kernel, by decide +kernel⟩
abbrev s_law_word : Stmt := topS 21
theorem sc_law_word : FnScope ["_law_span_here"] ["_law_span_here"] (defScope s_law_word) := ⟨rfl, rfl, rfl, by decide +kernel, rfl, by decide +kernel, by decide +kernel⟩
abbrev s_law_is_span : Stmt := topS 22
theorem sc_law_is_span : FnScope ["_law_one", "_law_number"] ["_law_one"] (defScope s_law_is_span) := ⟨rfl, rfl, rfl, by decide +kernel, rfl, by decide +kernel, by decide +kernel⟩
abbrev s_law : Stmt := topS 23
theorem sc_law : FnScope ["_law_script", "_law_cell", "_law_well_here", "_law_many", "_law_spans", "_law_due", "_law_handed", "_law_texts", "_law_found", "_law_k", "_law_span_here", "_law_text", "_law_one"] ["_law_script"] (defScope s_law) := ⟨rfl, rfl, rfl, by decide +kernel, rfl, by decide +kernel, by decide +kernel⟩
structure Def (K : PySem.W.Frag) (mg : Str → Option Value) (x : Str) (st : Stmt) (ps : List Str) (f : Addr) (fd : FuncData) : Prop where
  F : Fun K x x st f fd
  b : Binds K fd ps []
  g : mg x = some (.ref f)
structure Txt (K : PySem.W.Frag) (mg : Str → Option Value) where
  f_is_made_of : Addr
  fd_is_made_of : FuncData
  d_is_made_of : Def K mg "is_made_of" s_is_made_of ["text", "signs", "least", "most"] f_is_made_of fd_is_made_of
  f_is_figures : Addr
  fd_is_figures : FuncData
  d_is_figures : Def K mg "is_figures" s_is_figures ["text"] f_is_figures fd_is_figures
  f_read_spans : Addr
  fd_read_spans : FuncData
  d_read_spans : Def K mg "read_spans" s_read_spans ["text"] f_read_spans fd_read_spans
  f_span_told : Addr
  fd_span_told : FuncData
  d_span_told : Def K mg "span_told" s_span_told ["piece"] f_span_told fd_span_told
  f_is_end : Addr
  fd_is_end : FuncData
  d_is_end : Def K mg "is_end" s_is_end ["text"] f_is_end fd_is_end
  f_end_told : Addr
  fd_end_told : FuncData
  d_end_told : Def K mg "end_told" s_end_told ["text"] f_end_told fd_end_told
  f_are_ends : Addr
  fd_are_ends : FuncData
  d_are_ends : Def K mg "are_ends" s_are_ends ["start", "stop"] f_are_ends fd_are_ends
  f_show_spans : Addr
  fd_show_spans : FuncData
  d_show_spans : Def K mg "show_spans" s_show_spans ["spans"] f_show_spans fd_show_spans
  f_end_shown : Addr
  fd_end_shown : FuncData
  d_end_shown : Def K mg "end_shown" s_end_shown ["end"] f_end_shown fd_end_shown
  f_law_well : Addr
  fd_law_well : FuncData
  d_law_well : Def K mg "_law_well" s_law_well ["_law_cell"] f_law_well fd_law_well
  f_law_draw : Addr
  fd_law_draw : FuncData
  d_law_draw : Def K mg "_law_draw" s_law_draw ["_law_well_here", "_law_many"] f_law_draw fd_law_draw
  f_law_great : Addr
  fd_law_great : FuncData
  d_law_great : Def K mg "_law_great" s_law_great ["_law_well_here"] f_law_great fd_law_great
  f_law_span : Addr
  fd_law_span : FuncData
  d_law_span : Def K mg "_law_span" s_law_span ["_law_well_here"] f_law_span fd_law_span
  f_law_word : Addr
  fd_law_word : FuncData
  d_law_word : Def K mg "_law_word" s_law_word ["_law_span_here"] f_law_word fd_law_word
  f_law_is_span : Addr
  fd_law_is_span : FuncData
  d_law_is_span : Def K mg "_law_is_span" s_law_is_span ["_law_one"] f_law_is_span fd_law_is_span
  f_law : Addr
  fd_law : FuncData
  d_law : Def K mg "law" s_law ["_law_script"] f_law fd_law
  t_FIGURES : Tok
  g_FIGURES : mg "FIGURES" = some (.str "0123456789" t_FIGURES)
  t_MOST_FIGURES : Tok
  g_MOST_FIGURES : mg "MOST_FIGURES" = some (.int 60 t_MOST_FIGURES)
  m_all : mg "all" = none
  m_bool : mg "bool" = none
  m_enumerate : mg "enumerate" = none
  m_int : mg "int" = none
  m_isinstance : mg "isinstance" = none
  m_len : mg "len" = none
  m_list : mg "list" = none
  m_range : mg "range" = none
  m_str : mg "str" = none
  m_tuple : mg "tuple" = none
/-! ### what is asked about -/
inductive Thing (H : Hp) : V → Prop where
  | str (z : Str) (h : z.length ≤ 1000) : Thing H (.str z)
  | non : Thing H .non
  | bl (b : Bool) : Thing H (.bl b)
  | int (i : Int) : Thing H (.int i)
  | lst {p : Addr} {xs : List V} (h : H p = some (.lst xs)) : Thing H (.ref p)
  | tup {p : Addr} {xs : List V} (h : H p = some (.tup xs)) : Thing H (.ref p)
  | dK {p : Addr} {xs : List (Key × V)} (h : H p = some (.dK xs)) : Thing H (.ref p)
theorem Thing.mono {H H' : Hp} {v : V} (e : Same H H') (t : Thing H v) : Thing H' v := by
  cases t with
  | str z h => exact .str z h
  | non => exact .non
  | bl b => exact .bl b
  | int i => exact .int i
  | lst h => exact .lst (e _ _ h)
  | tup h => exact .tup (e _ _ h)
  | dK h => exact .dK (e _ _ h)
def ans (f : Str → Bool) : V → Bool
  | .str z => f z
  | _ => false
theorem Thing.two {K : PySem.W.Frag} {H : Hp} {v : V} (t : Thing H v) : (∃ z, v = .str z ∧ z.length ≤ 1000) ∨ ∃ n : String, TyX K H v (.type n) ∧ kitB n "str" = some false ∧ ∀ f, ans f v = false := by
  cases t with
  | str z h => exact .inl ⟨z, rfl, h⟩
  | non => exact .inr ⟨_, .base .non, by decide +kernel, fun _ => rfl⟩
  | bl b => exact .inr ⟨_, .base (.bl b), by decide +kernel, fun _ => rfl⟩
  | int i => exact .inr ⟨_, .base (.int i), by decide +kernel, fun _ => rfl⟩
  | lst h => exact .inr ⟨_, .base (.lst h), by decide +kernel, fun _ => rfl⟩
  | tup h => exact .inr ⟨_, .base (.tup h), by decide +kernel, fun _ => rfl⟩
  | dK h => exact .inr ⟨_, .base (.dK h), by decide +kernel, fun _ => rfl⟩
theorem kit_str {K : PySem.W.Frag} : PySem.W.kitOne K (.type "str") (.type "str") = some true := kit_ty (by decide +kernel)
/-! ### the mathematics: what each word is -/
def inB (sg z : Str) : Bool := z.cps.toList.all fun c => decide (c ∈ sg.cps.toList)
def ofB (sg : Str) (lo hi : Int) (z : Str) : Bool := (decide (lo ≤ z.length) && decide ((z.length : Int) ≤ hi)) && inB sg z
def nought (z : Str) : Bool := decide (z = "0") || !decide (z.cps.toList.head? = some 48)
def figB (z : Str) : Bool := ofB "0123456789" 1 60 z && nought z

/-! ### spans -/
abbrev Spn := Option Int × Option Int
def oV : Option Int → V
  | none => .non
  | some n => .int n
def endB (e : Str) : Bool := decide (V.str e = V.str "") || figB e
def endV (e : Str) : Option Int := if V.str e = V.str "" then none else intText? e
def endsB : Option Int → Option Int → Bool
  | none, none => false
  | none, some n => decide (0 < n)
  | some _, none => true
  | some a, some b => decide (a < b)
def spanT (z : Str) : Option Spn :=
  if V.str (Txt.partition z "..").2.1 = V.str "" then none else if (endB (Txt.partition z "..").1 && endB (Txt.partition z "..").2.2) = true then
    (if endsB (endV (Txt.partition z "..").1) (endV (Txt.partition z "..").2.2) = true then some (endV (Txt.partition z "..").1, endV (Txt.partition z "..").2.2) else none) else none
/-- a span in the heap -/
def PS2 (H : Hp) (v : V) (sp : Spn) : Prop := ∃ t : Addr, v = .ref t ∧ H t = some (.tup [oV sp.1, oV sp.2])
theorem PS2.mono {H H' : Hp} {v : V} {sp : Spn} (e : Same H H') (h : PS2 H v sp) : PS2 H' v sp := by
  obtain ⟨t, rfl, h⟩ := h
  exact ⟨t, rfl, e _ _ h⟩
theorem inB_digits {z : Str} (h : inB "0123456789" z = true) : NumText.AllDigits z.cps.toList := by
  intro c hc
  unfold inB at h
  have := List.all_eq_true.mp h c hc
  exact (by decide : ∀ c ∈ ("0123456789" : Str).cps.toList, 48 ≤ c ∧ c ≤ 57) c (of_decide_eq_true this)
theorem fig_int {z : Str} (h : figB z = true) : ∃ n : Nat, intText? z = some (n : Int) ∧ z.length ≤ 60 := by
  unfold figB ofB at h
  simp only [Bool.and_eq_true, decide_eq_true_eq] at h
  obtain ⟨⟨⟨h1, h2⟩, h3⟩, _⟩ := h
  refine ⟨_, intText_digits (inB_digits h3) (fun e => ?_) (by omega), by omega⟩
  have := len_tl z
  have e' : z.cps.toList.length = 0 := by rw [e]; rfl
  have h1' : (1 : Int) ≤ (z.length : Int) := h1
  have h4 : z.cps.toList.length = z.length := Array.length_toList
  omega
section
variable {P : Program} {w : World} {K : PySem.W.Frag} {mg : Str → Option Value} {base : Heap}
def spMade : Sp := fun vs H Q _ => ∃ (v : V) (sg : Str) (lo hi : Int), vs = [v, .str sg, .int lo, .int hi] ∧ Thing H v ∧ ∀ H', Same H H' → Q (.bl (ans (ofB sg lo hi) v)) H'
theorem ok_is_made_of (T : Txt K mg) : FnOk P w K mg base CX0 1 T.f_is_made_of T.fd_is_made_of ["text", "signs", "least", "most"] spMade := by
  refine T.d_is_made_of.F.ok sc_is_made_of (fun vs H Q E h => ?_) (fun cdv A outer s H vs Q E hr h => ?_)
  · obtain ⟨v, sg, lo, hi, rfl, _⟩ := h
    rfl
  · obtain ⟨v, sg, lo, hi, rfl, th, q⟩ := h
    refine ⟨_, (pss_cons (ps_if (pt_not (pt_val (pe_callB call_isi (by rfl) T.m_isinstance (by decide +kernel) (pa_cons (pv 0) (pa_cons (pe_bltn (v := .ty "str") (by rfl) T.m_str (by decide +kernel) rfl) pa_nil)))))
      (pss_one (ps_ret pe_bl))
      pss_nil)
      (pss_cons (ps_if (PW.pt (pw_or (pt_cmpR op_lt (pe_callB call_len_str (by rfl) T.m_len (by decide +kernel) (pa_cons (pv 0) pa_nil)) (pv 2) (nomark _)) (pw_or1 (pt_cmpR op_gt (pe_callB call_len_str (by rfl) T.m_len (by decide +kernel) (pa_cons (pv 0) pa_nil)) (pv 3) (nomark _)))))
      (pss_one (ps_ret pe_bl))
      pss_nil)
      (pss_one (ps_ret (pe_callB (cr_all rfl) (by rfl) T.m_all (by decide +kernel) (pa_cons (pe_lc (own := [("sign", 4)]) (g := gName 4) (tt := tYes) (by rfl) sc_is_made_of.nd (pi_str (pv 0)) (blkOk_by (own := [("sign", 4)]) (N := ["text", "signs", "least", "most", "sign"]) (sc := defScope s_is_made_of) (by decide +kernel)) (fun _ _ _ _ _ => (pg_name (i := 4) sc_is_made_of.nd rfl (Or.inl rfl))) (fun _ _ _ _ _ => pts_nil) (fun _ _ _ _ _ => (pe_cmpR op_in_sign (pv 4) (pv 1) rfl))) pa_nil)))))), ?_⟩
    rcases th.two (K := K) with ⟨z, rfl, hz⟩ | ⟨n, ty, nk, ef⟩
    · refine ⟨.str z, rfl, .str z, .ty "str", _, _, true, rfl, .ty "str", .base (.str z), kit_str, true, rfl, ?_⟩
      refine ⟨.str z, rfl, z, rfl, szl (by omega), .int lo, rfl, _, lo, rfl, rfl, _, rfl, ite2 (fun e => ?_) (fun e => ?_)⟩
      · have h1 : (z.length : Int) < lo := of_decide_eq_true e
        have h2 := q H (Same.refl H)
        have h3 : ans (ofB sg lo hi) (.str z) = false := by
          show ((decide (lo ≤ (z.length : Int)) && decide ((z.length : Int) ≤ hi)) && inB sg z) = false
          rw [decide_eq_false (by omega)]
          rfl
        rw [h3] at h2
        exact h2
      · have h1 : ¬ (z.length : Int) < lo := fun x => e (decide_eq_true x)
        refine ⟨.str z, rfl, z, rfl, szl (by omega), .int hi, rfl, _, hi, rfl, rfl, _, rfl, ?_⟩
        show if _ = true then _ else _
        refine ite2 (fun e2 => ?_) (fun e2 => ?_)
        · have h1 : hi < (z.length : Int) := of_decide_eq_true e2
          have h2 := q H (Same.refl H)
          have h3 : ans (ofB sg lo hi) (.str z) = false := by
            show ((decide (lo ≤ (z.length : Int)) && decide ((z.length : Int) ≤ hi)) && inB sg z) = false
            rw [decide_eq_false (show ¬ (z.length : Int) ≤ hi by omega), Bool.and_false]
            rfl
          rw [h3] at h2
          exact h2
        · have h2 : ¬ hi < (z.length : Int) := fun x => e2 (decide_eq_true x)
          refine ⟨.str z, rfl, z, rfl, fun D hD => ?_⟩
          refine lc_it walk_str (fun i H' => Same H H' ∧ H' D = some (.lst ((z.cps.toList.take i).map fun c => V.bl (decide (c ∈ sg.cps.toList))))) ⟨same_upd hD, upd_same⟩ (fun _ _ _ _ => trivial) ?_ ?_
          · rintro i x H1 H2 hi1 ⟨sm, eD⟩ ⟨rfl, c, hc, rfl⟩
            refine ⟨rfl, _, rfl, _, rfl, c, sg, rfl, rfl, _, eD, ?_, same_mut sm hD, ?_⟩
            · rw [List.length_map, List.length_take, len_tl]
              exact szlt (by omega)
            · rw [upd_same, take_map _ (at_l hc)]
          · rintro H1 ⟨sm, eD⟩
            refine ⟨D, z.cps.toList.map fun c => decide (c ∈ sg.cps.toList), rfl, SqL.of ?_, ?_⟩
            · rw [eD, List.map_map, List.take_of_length_le (show z.cps.toList.length ≤ z.cps.size from Nat.le_of_eq (len_tl z))]
              rfl
            · have h4 := q H1 sm
              have h3 : ans (ofB sg lo hi) (.str z) = (z.cps.toList.map fun c => decide (c ∈ sg.cps.toList)).all id := by
                show ((decide (lo ≤ (z.length : Int)) && decide ((z.length : Int) ≤ hi)) && inB sg z) = _
                rw [decide_eq_true (by omega), decide_eq_true (by omega), List.all_map]
                rfl
              rw [h3] at h4
              exact h4
    · refine ⟨v, rfl, v, .ty "str", _, _, false, rfl, .ty "str", ty, kit_ty nk, false, rfl, ?_⟩
      have h2 := q H (Same.refl H)
      rw [ef] at h2
      exact h2
def spIs (f : Str → Bool) : Sp := fun vs H Q _ => ∃ (v : V), vs = [v] ∧ Thing H v ∧ ∀ H', Same H H' → Q (.bl (ans f v)) H'
theorem head_at {z : Str} (h : 0 < z.length) : ∃ c, z.cps.toList.head? = some c ∧ atI z.cps.toList 0 = some c := by
  have hl := len_tl z
  cases e : z.cps.toList with
  | nil =>
    rw [e] at hl
    have : 0 = z.length := hl
    omega
  | cons c r => exact ⟨c, rfl, atI_nat (j := 0) rfl⟩
theorem nought_ne {z : Str} {c : Nat} (h : z.cps.toList.head? = some c) : nought z = (decide (V.str z = V.str "0") || !decide (V.str ⟨#[c]⟩ = V.str "0")) := by
  unfold nought
  rw [h]
  have e1 : decide (V.str z = V.str "0") = decide (z = "0") := by
    by_cases h : z = "0"
    · rw [decide_eq_true h, decide_eq_true (congrArg V.str h)]
    · rw [decide_eq_false h, decide_eq_false fun x => h (V.str.inj x)]
  have e2 : decide (V.str ⟨#[c]⟩ = V.str "0") = decide (some c = some 48) := by
    by_cases h : c = 48
    · subst h
      decide
    · rw [decide_eq_false fun x => h (Option.some.inj x), decide_eq_false fun x => h ?_]
      have y : (⟨#[c]⟩ : Str) = ⟨#[48]⟩ := (V.str.inj x).trans (by decide)
      have y2 : (#[c] : Array Nat) = #[48] := congrArg Str.cps y
      have y3 := congrArg (fun a : Array Nat => a.toList) y2
      exact (List.cons.inj y3).1
  rw [e1, e2]
theorem ofB_len {sg : Str} {lo hi : Int} {z : Str} (h : ofB sg lo hi z = true) : lo ≤ z.length := by
  unfold ofB at h
  simp only [Bool.and_eq_true, decide_eq_true_eq] at h
  exact h.1.1
theorem ok_is_figures (T : Txt K mg) : FnOk P w K mg base CX0 2 T.f_is_figures T.fd_is_figures ["text"] (spIs figB) := by
  refine T.d_is_figures.F.ok sc_is_figures (fun vs H Q E h => ?_) (fun cdv A outer s H vs Q E hr h => ?_)
  · obtain ⟨v, rfl, _⟩ := h
    rfl
  · obtain ⟨v, rfl, th, q⟩ := h
    refine ⟨_, (pss_cons (ps_if (pt_not (pt_val (pe_call (ok_is_made_of T) (hr.mono (by decide)) (by rfl) T.d_is_made_of.g T.d_is_made_of.F.kp T.d_is_made_of.b .nil pass0 (pa_cons (pv 0) (pa_cons (pe_glob (v := .str "0123456789") (by rfl) T.g_FIGURES ⟨_, rfl⟩) (pa_cons pe_int (pa_cons (pe_glob (v := .int 60) (by rfl) T.g_MOST_FIGURES ⟨_, rfl⟩) pa_nil)))))))
      (pss_one (ps_ret pe_bl))
      pss_nil)
      (pss_one (ps_ret (pe_or (pe_cmpR op_eq (pv 0) pe_str (nomark _)) (pe_one (pe_cmpR op_ne (pe_ix ix_str (pv 0) pe_int (fun _ _ => rfl)) pe_str (nomark _))))))), ?_⟩
    refine ⟨v, rfl, v, _, _, _, rfl, th, fun H1 sm => ⟨_, rfl, ?_⟩⟩
    show if (!ans (ofB "0123456789" 1 60) v) = true then _ else _
    refine ite2 (fun e => ?_) (fun e => ?_)
    · have e1 : ans (ofB "0123456789" 1 60) v = false := by simpa using e
      have h2 := q H1 sm
      have e2 : ans figB v = false := by
        cases v <;> first | rfl | skip
        show (ofB "0123456789" 1 60 _ && _) = false
        rw [show ofB "0123456789" 1 60 _ = false from e1]
        rfl
      rw [e2] at h2
      exact h2
    · have e1 : ans (ofB "0123456789" 1 60) v = true := by simpa using e
      rcases th.two (K := K) with ⟨z, rfl, hz⟩ | ⟨n, ty, nk, ef⟩
      · have l0 : 0 < z.length := by
          have := ofB_len (show ofB "0123456789" 1 60 z = true from e1)
          omega
        obtain ⟨c, hc, ec⟩ := head_at l0
        have h2 := q H1 sm
        have e3 : ans figB (.str z) = (decide (V.str z = V.str "0") || !decide (V.str ⟨#[c]⟩ = V.str "0")) := by
          show (ofB "0123456789" 1 60 z && nought z) = _
          rw [show ofB "0123456789" 1 60 z = true from e1, nought_ne hc]
          rfl
        rw [e3] at h2
        refine ⟨_, rfl, rfl, _, rfl, ite2 (fun e4 => ?_) (fun e4 => ?_)⟩
        · rw [e4, Bool.true_or] at h2
          exact h2
        · refine ⟨_, rfl, z, 0, c, rfl, rfl, szl (by omega), ec, rfl, ?_⟩
          have e5 : decide (V.str z = V.str "0") = false := by simpa using e4
          rw [e5, Bool.false_or] at h2
          exact h2
      · rw [ef] at e1
        cases e1

theorem ok_law_well (T : Txt K mg) : FnOk P w K mg base CX0 1 T.f_law_well T.fd_law_well ["_law_cell"] spWell := by
  refine T.d_law_well.F.ok sc_law_well (fun vs H Q E h => ?_) (fun cdv A outer s H vs Q E hr h => ?_)
  · obtain ⟨n, rfl, _⟩ := h
    rfl
  · obtain ⟨n, rfl, q⟩ := h
    refine ⟨_, (pss_one (ps_ret (pe_lst (pa_cons (pe_op op_mul (pv 0) (pe_callTy call_int1 (by rfl) T.m_int (by decide +kernel) (pa_cons (pe_cmpR op_ge (pv 0) (pe_op op_pow pe_int pe_int) (nomark _)) pa_nil))) (pa_cons (pe_op op_mod (pv 0) pe_int) (pa_cons pe_int pa_nil)))))), ?_⟩
    refine ⟨.int n, rfl, .int n, rfl, 10, 18, rfl, rfl, ⟨by decide, by decide, by decide⟩, n, _, rfl, rfl, .inr ⟨_, rfl, n, _, rfl, rfl, ?_, .int n, rfl, n, _, rfl, rfl, (show (0 : Int) < 2147483647 by decide), ?_⟩⟩
    · refine .inr ?_
      split <;> decide
    · exact ⟨(by show 3 ≤ sizeLine; decide), fun p hp => q p _ _ _ hp⟩
theorem ok_law_draw (T : Txt K mg) : FnOk P w K mg base CX0 1 T.f_law_draw T.fd_law_draw ["_law_well_here", "_law_many"] spDraw := by
  refine T.d_law_draw.F.ok sc_law_draw (fun vs H Q E h => ?_) (fun cdv A outer s H vs Q E hr h => ?_)
  · obtain ⟨W, m, rfl, _⟩ := h
    rfl
  · obtain ⟨W, m, rfl, m0, m1, hI, q⟩ := h
    obtain ⟨a, b, c, hW⟩ := id hI
    have i0 : atI [V.int a, .int b, .int c] 0 = some (.int a) := rfl
    have i1 : atI [V.int a, .int b, .int c] 1 = some (.int b) := rfl
    have i2 : atI [V.int a, .int b, .int c] 2 = some (.int c) := rfl
    refine ⟨_, (pss_cons (ps_if (pt_cmpR op_gt (pe_ix ix_list (pv 0) pe_int (fun _ _ => rfl)) pe_int (nomark _))
      (pss_cons (ps_set (i := 2) sc_law_draw.nd rfl (.inl rfl) (pe_op op_mod (pe_ix ix_list (pv 0) pe_int (fun _ _ => rfl)) (pv 1)))
      (pss_cons (ps_asg (pe_op op_fdiv (pe_ix ix_list (pv 0) pe_int (fun _ _ => rfl)) (pv 1)) (pg_sub (pv 0) pe_int set_list))
      (pss_one (ps_ret (pv 2)))))
      pss_nil)
      (pss_cons (ps_asg (pe_op op_add (pe_ix ix_list (pv 0) pe_int (fun _ _ => rfl)) pe_int) (pg_sub (pv 0) pe_int set_list))
      (pss_cons (ps_set (i := 3) sc_law_draw.nd rfl (.inl rfl) (pe_op op_mod (pe_op op_mul (pe_op op_add (pe_op op_add (pe_ix ix_list (pv 0) pe_int (fun _ _ => rfl)) (pe_op op_mul pe_int (pe_ix ix_list (pv 0) pe_int (fun _ _ => rfl)))) pe_int) pe_int) pe_int))
      (pss_cons (ps_set (i := 3) sc_law_draw.nd rfl (.inl rfl) (pe_op op_mod (pe_op op_mul (pv 3) (pe_op op_add (pe_op op_fdiv (pv 3) pe_int) pe_int)) pe_int))
      (pss_one (ps_ret (pe_op op_mod (pe_op op_mod (pe_op op_mul (pv 3) (pe_op op_add (pe_op op_fdiv (pv 3) pe_int) pe_int)) pe_int) (pv 1)))))))), ?_⟩
    refine ⟨.ref W, rfl, W, _, 0, _, rfl, rfl, SqL.of hW, i0, a, 0, rfl, rfl, _, rfl, ite2 (fun e => ?_) (fun e => ?_)⟩
    · refine ⟨.ref W, rfl, W, _, 0, _, rfl, rfl, SqL.of hW, i0, .int m, rfl, a, m, rfl, rfl, m0, ?_⟩
      refine ⟨.ref W, rfl, W, _, 0, _, rfl, rfl, SqL.of hW, i0, .int m, rfl, a, m, rfl, rfl, ⟨m0, m1⟩, .ref W, rfl, W, _, 0, 0, rfl, rfl, hW, rfl, ?_⟩
      exact ⟨_, rfl, q _ _ (mod_lt m0).1 (mod_lt m0).2 ((Wx.refl hI).set _ _ _)⟩
    · refine ⟨.ref W, rfl, W, _, 2, _, rfl, rfl, SqL.of hW, i2, c, 1, rfl, rfl, .ref W, rfl, W, _, 2, 2, rfl, rfl, hW, rfl, ?_⟩
      have hW' : (upd H W (W3 a b (c + 1))) W = some (W3 a b (c + 1)) := upd_same
      have j1 : atI [V.int a, .int b, .int (c + 1)] 1 = some (.int b) := rfl
      have j2 : atI [V.int a, .int b, .int (c + 1)] 2 = some (.int (c + 1)) := rfl
      refine ⟨.ref W, rfl, W, _, 1, _, rfl, rfl, SqL.of hW', j1, .ref W, rfl, W, _, 2, _, rfl, rfl, SqL.of hW', j2, 7919, _, rfl, rfl, .inl (by decide), b, _, rfl, rfl, _, 1, rfl, rfl, _, 48271, rfl, rfl, .inr (by decide), _, 2147483647, rfl, rfl, (show (0 : Int) < 2147483647 by decide), ?_⟩
      refine ⟨_, rfl, _, rfl, _, 1009, rfl, rfl, ⟨by decide, by decide⟩, _, 69621, rfl, rfl, _, _, rfl, rfl, cmul_of (mod_lt (by decide)), _, 2147483647, rfl, rfl, (show (0 : Int) < 2147483647 by decide), ?_⟩
      refine ⟨_, rfl, _, rfl, _, 2003, rfl, rfl, ⟨by decide, by decide⟩, _, 40692, rfl, rfl, _, _, rfl, rfl, cmul_of (mod_lt (by decide)), _, 2147483399, rfl, rfl, (show (0 : Int) < 2147483399 by decide), .int m, rfl, _, m, rfl, rfl, m0, ?_⟩
      exact q _ _ (mod_lt m0).1 (mod_lt m0).2 ((Wx.refl hI).set _ _ _)

def spEnd : Sp := fun vs H Q _ => ∃ z : Str, vs = [.str z] ∧ z.length ≤ 1000 ∧ ∀ H', Same H H' → Q (.bl (endB z)) H'
theorem ok_is_end (T : Txt K mg) : FnOk P w K mg base CX0 3 T.f_is_end T.fd_is_end ["text"] spEnd := by
  refine T.d_is_end.F.ok sc_is_end (fun vs H Q E h => ?_) (fun cdv A outer s H vs Q E hr h => ?_)
  · obtain ⟨z, rfl, _⟩ := h
    rfl
  · obtain ⟨z, rfl, hz, q⟩ := h
    refine ⟨_, (pss_one (ps_ret (pe_or (pe_cmpR op_eq (pv 0) pe_str (nomark _)) (pe_one (pe_call (ok_is_figures T) (hr.mono (by decide)) (by rfl) T.d_is_figures.g T.d_is_figures.F.kp T.d_is_figures.b .nil pass0 (pa_cons (pv 0) pa_nil)))))), ?_⟩
    refine ⟨.str z, rfl, rfl, _, rfl, ite2 (fun e => ?_) (fun e => ?_)⟩
    · have h2 := q H (Same.refl H)
      have e2 : endB z = true := by
        unfold endB
        rw [e]
        rfl
      rw [e2] at h2
      exact h2
    · refine ⟨.str z, rfl, .str z, rfl, .str z hz, fun H1 s1 => ?_⟩
      have h2 := q H1 s1
      have e2 : endB z = figB z := by
        unfold endB
        rw [show decide (V.str z = V.str "") = false by simpa using e]
        rfl
      rw [e2] at h2
      exact h2
def spEndTold : Sp := fun vs H Q _ => ∃ z : Str, vs = [.str z] ∧ endB z = true ∧ Q (oV (endV z)) H
theorem ok_end_told (T : Txt K mg) : FnOk P w K mg base CX0 1 T.f_end_told T.fd_end_told ["text"] spEndTold := by
  refine T.d_end_told.F.ok sc_end_told (fun vs H Q E h => ?_) (fun cdv A outer s H vs Q E hr h => ?_)
  · obtain ⟨z, rfl, _⟩ := h
    rfl
  · obtain ⟨z, rfl, hz, q⟩ := h
    refine ⟨_, (pss_cons (ps_if (pt_cmpR op_eq (pv 0) pe_str (nomark _))
      (pss_one (ps_ret pe_non))
      pss_nil)
      (pss_one (ps_ret (pe_callTy call_int_str (by rfl) T.m_int (by decide +kernel) (pa_cons (pv 0) pa_nil))))), ?_⟩
    refine ⟨.str z, rfl, rfl, _, rfl, ite2 (fun e => ?_) (fun e => ?_)⟩
    · have e2 : endV z = none := by
        unfold endV
        rw [if_pos (of_decide_eq_true e)]
      rw [e2] at q
      exact q
    · have e1 : ¬ V.str z = V.str "" := fun x => e (decide_eq_true x)
      have hf : figB z = true := by
        unfold endB at hz
        rw [decide_eq_false e1] at hz
        exact hz
      obtain ⟨n, hn, hl⟩ := fig_int hf
      have e2 : endV z = some (n : Int) := by
        unfold endV
        rw [if_neg e1, hn]
      rw [e2] at q
      exact ⟨.str z, rfl, z, n, rfl, hn, by omega, q⟩
def spAre : Sp := fun vs H Q _ => ∃ a b : Option Int, vs = [oV a, oV b] ∧ Q (.bl (endsB a b)) H
theorem ok_are_ends (T : Txt K mg) : FnOk P w K mg base CX0 1 T.f_are_ends T.fd_are_ends ["start", "stop"] spAre := by
  refine T.d_are_ends.F.ok sc_are_ends (fun vs H Q E h => ?_) (fun cdv A outer s H vs Q E hr h => ?_)
  · obtain ⟨a, b, rfl, _⟩ := h
    rfl
  · obtain ⟨a, b, rfl, q⟩ := h
    refine ⟨_, (pss_cons (ps_if (pt_cmpR op_isN (pv 0) pe_non (nomark _))
      (pss_one (ps_ret (pe_and (pe_cmpR op_notN (pv 1) pe_non (nomark _)) (pe_one (pe_cmpR op_gt (pv 1) pe_int (nomark _))))))
      pss_nil)
      (pss_one (ps_ret (pe_or (pe_cmpR op_isN (pv 1) pe_non (nomark _)) (pe_one (pe_cmpR op_lt (pv 0) (pv 1) (nomark _))))))), ?_⟩
    cases a with
    | none =>
      cases b with
      | none => exact ⟨.non, rfl, rfl, true, rfl, .non, rfl, rfl, false, rfl, q⟩
      | some b => exact ⟨.non, rfl, rfl, true, rfl, .int b, rfl, rfl, true, rfl, .int b, rfl, b, 0, rfl, rfl, q⟩
    | some a =>
      cases b with
      | none => exact ⟨.int a, rfl, rfl, false, rfl, .non, rfl, rfl, true, rfl, q⟩
      | some b => exact ⟨.int a, rfl, rfl, false, rfl, .int b, rfl, rfl, false, rfl, .int a, rfl, .int b, rfl, a, b, rfl, rfl, q⟩
def spSpan : Sp := fun vs H Q _ => ∃ z : Str, vs = [.str z] ∧ z.length ≤ 1000 ∧ ∀ v H', Same H H' → (spanT z = none → v = .non) → (∀ sp, spanT z = some sp → PS2 H' v sp) → Q v H'
theorem par_len (S : List Nat) : ∀ (xs acc a b : List Nat), par S acc xs = some (a, b) → a.length ≤ acc.length + xs.length ∧ b.length ≤ xs.length
  | [], acc, a, b, h => by cases h
  | c :: r, acc, a, b, h => by
    unfold par at h
    by_cases hp : pre S (c :: r) = true
    · rw [if_pos hp] at h
      cases h
      rw [List.length_drop]
      omega
    · rw [if_neg hp] at h
      have := par_len S r _ a b h
      rw [List.length_append] at this
      rw [List.length_cons]
      simp only [List.length_cons, List.length_nil] at this
      omega
theorem part_len (z : Str) : (Txt.partition z "..").1.length ≤ z.length ∧ (Txt.partition z "..").2.2.length ≤ z.length := by
  rw [partition_par z ".." (by decide)]
  have e2 : (tl z).length = z.length := My.len_tl z
  cases h : par (tl "..") [] (tl z) with
  | none => exact ⟨Nat.le_refl _, Nat.zero_le _⟩
  | some ab =>
    obtain ⟨a, b⟩ := ab
    obtain ⟨u1, u2⟩ := par_len _ _ _ _ _ h
    have u1' : a.length ≤ 0 + (tl z).length := u1
    have u2' : b.length ≤ (tl z).length := u2
    rw [e2] at u1' u2'
    exact ⟨Nat.le_trans (Nat.le_of_eq (mk_len a)) (by omega), Nat.le_trans (Nat.le_of_eq (mk_len b)) (by omega)⟩
theorem ok_span_told (T : Txt K mg) : FnOk P w K mg base CX0 4 T.f_span_told T.fd_span_told ["piece"] spSpan := by
  refine T.d_span_told.F.ok sc_span_told (fun vs H Q E h => ?_) (fun cdv A outer s H vs Q E hr h => ?_)
  · obtain ⟨z, rfl, _⟩ := h
    rfl
  · obtain ⟨z, rfl, hz, q⟩ := h
    refine ⟨_, (pss_cons (ps_asg (pe_partition (pv 0) pe_str) (pg_tup rfl (pgs_cons (pg_name (i := 1) sc_span_told.nd rfl (.inl rfl)) (pgs_cons (pg_name (i := 2) sc_span_told.nd rfl (.inl rfl)) (pgs_cons (pg_name (i := 3) sc_span_told.nd rfl (.inl rfl)) pgs_nil)))))
      (pss_cons (ps_if (PW.pt (pw_or (pt_cmpR op_eq (pv 2) pe_str (nomark _)) (pw_or (pt_not (pt_val (pe_call (ok_is_end T) (hr.mono (by decide)) (by rfl) T.d_is_end.g T.d_is_end.F.kp T.d_is_end.b .nil pass0 (pa_cons (pv 1) pa_nil)))) (pw_or1 (pt_not (pt_val (pe_call (ok_is_end T) (hr.mono (by decide)) (by rfl) T.d_is_end.g T.d_is_end.F.kp T.d_is_end.b .nil pass0 (pa_cons (pv 3) pa_nil))))))))
      (pss_one (ps_ret pe_non))
      pss_nil)
      (pss_cons (ps_set (i := 4) sc_span_told.nd rfl (.inl rfl) (pe_call (ok_end_told T) (hr.mono (by decide)) (by rfl) T.d_end_told.g T.d_end_told.F.kp T.d_end_told.b .nil pass0 (pa_cons (pv 1) pa_nil)))
      (pss_cons (ps_set (i := 5) sc_span_told.nd rfl (.inl rfl) (pe_call (ok_end_told T) (hr.mono (by decide)) (by rfl) T.d_end_told.g T.d_end_told.F.kp T.d_end_told.b .nil pass0 (pa_cons (pv 3) pa_nil)))
      (pss_cons (ps_if (pt_not (pt_val (pe_call (ok_are_ends T) (hr.mono (by decide)) (by rfl) T.d_are_ends.g T.d_are_ends.F.kp T.d_are_ends.b .nil pass0 (pa_cons (pv 4) (pa_cons (pv 5) pa_nil)))))
      (pss_one (ps_ret pe_non))
      pss_nil)
      (pss_one (ps_ret (pe_tup (pa_cons (pv 4) (pa_cons (pv 5) pa_nil)))))))))), ?_⟩
    have hpl := part_len z
    refine ⟨.str z, rfl, ⟨z, rfl⟩, z, _, rfl, rfl, by decide, szl (by omega), fun p hp => ?_⟩
    have hsp : spanT z = (if V.str (Txt.partition z "..").2.1 = V.str "" then none else if (endB (Txt.partition z "..").1 && endB (Txt.partition z "..").2.2) = true then
      (if endsB (endV (Txt.partition z "..").1) (endV (Txt.partition z "..").2.2) = true then some (endV (Txt.partition z "..").1, endV (Txt.partition z "..").2.2) else none) else none) := rfl
    generalize hP : Txt.partition z ".." = pp at *
    obtain ⟨lo, dots, hi⟩ := pp
    dsimp only at hsp hpl ⊢
    have s0 := same_upd (o := .tup [.str lo, .str dots, .str hi]) hp
    refine ⟨p, _, rfl, SqT.of upd_same, rfl, _, _, rfl, _, _, rfl, _, _, rfl, rfl, ?_⟩
    refine ⟨_, rfl, rfl, _, rfl, ite2 (fun e => ?_) (fun e => ?_)⟩
    · rw [if_pos (of_decide_eq_true e)] at hsp
      exact q .non _ s0 (fun _ => rfl) (fun sp h => by rw [hsp] at h; cases h)
    · rw [if_neg (fun x => e (decide_eq_true x))] at hsp
      refine ⟨_, rfl, lo, rfl, by omega, fun H1 s1 => ⟨_, rfl, ?_⟩⟩
      show if (!endB lo) = true then _ else _
      refine ite2 (fun e1 => ?_) (fun e1 => ?_)
      · rw [show endB lo = false by simpa using e1, Bool.false_and, if_neg Bool.false_ne_true] at hsp
        exact q .non _ (s0.trans s1) (fun _ => rfl) (fun sp h => by rw [hsp] at h; cases h)
      · have hlo : endB lo = true := by simpa using e1
        rw [hlo, Bool.true_and] at hsp
        refine ⟨_, rfl, hi, rfl, by omega, fun H2 s2 => ⟨_, rfl, ?_⟩⟩
        have s02 := (s0.trans s1).trans s2
        show if (!endB hi) = true then _ else _
        refine ite2 (fun e2 => ?_) (fun e2 => ?_)
        · rw [show endB hi = false by simpa using e2, if_neg Bool.false_ne_true] at hsp
          exact q .non _ s02 (fun _ => rfl) (fun sp h => by rw [hsp] at h; cases h)
        · have hhi : endB hi = true := by simpa using e2
          rw [hhi, if_pos rfl] at hsp
          refine ⟨_, rfl, lo, rfl, hlo, _, rfl, hi, rfl, hhi, _, rfl, _, rfl, endV lo, endV hi, rfl, _, rfl, ?_⟩
          show if (!endsB (endV lo) (endV hi)) = true then _ else _
          refine ite2 (fun e3 => ?_) (fun e3 => ?_)
          · rw [show endsB (endV lo) (endV hi) = false by simpa using e3, if_neg Bool.false_ne_true] at hsp
            exact q .non _ s02 (fun _ => rfl) (fun sp h => by rw [hsp] at h; cases h)
          · rw [show endsB (endV lo) (endV hi) = true by simpa using e3, if_pos rfl] at hsp
            refine ⟨_, rfl, _, rfl, (by show 2 ≤ sizeLine; decide), fun p2 h2 => ?_⟩
            refine q (.ref p2) _ (s02.trans (same_upd h2)) (fun h => by rw [hsp] at h; cases h) fun sp h => ?_
            rw [hsp] at h
            cases h
            exact ⟨p2, rfl, upd_same⟩
end
end My
namespace My
open PySem PySem.Spec PyProof.Rows L2 TL
/-! ### numbers as texts -/
def nT (n : Int) : Str := Str.ofString (toString n)
def nS : Option Int → Str
  | none => ""
  | some n => nT n
theorem tl_nT (n : Nat) : (nT (n : Int)).cps.toList = numL n := tl_num n
theorem numL_head : ∀ n : Nat, 0 < n → ∃ c r, numL n = c :: r ∧ c ≠ 48
  | n, h => by
    by_cases h10 : n < 10
    · rw [numL_lt h10]
      exact ⟨48 + n, [], rfl, by omega⟩
    · have hd : n / 10 < n := Nat.div_lt_self h (by decide)
      obtain ⟨c, r, e, hc⟩ := numL_head (n / 10) (by omega)
      rw [numL_step (by omega), e]
      exact ⟨c, r ++ [48 + n % 10], rfl, hc⟩
theorem len_nT {n : Nat} (h : n < 10 ^ 60) : (nT (n : Int)).length ≤ 60 := by
  have := numL_len (k := 60) (by decide) h
  have e := My.len_tl (nT (n : Int))
  rw [tl_nT] at e
  omega
theorem dig_in {c : Nat} (h : 48 ≤ c ∧ c ≤ 57) : c ∈ ("0123456789" : Str).cps.toList := by
  have e : ("0123456789" : Str).cps.toList = [48, 49, 50, 51, 52, 53, 54, 55, 56, 57] := by decide
  rw [e]
  obtain ⟨h1, h2⟩ := h
  have : c = 48 ∨ c = 49 ∨ c = 50 ∨ c = 51 ∨ c = 52 ∨ c = 53 ∨ c = 54 ∨ c = 55 ∨ c = 56 ∨ c = 57 := by omega
  rcases this with rfl | rfl | rfl | rfl | rfl | rfl | rfl | rfl | rfl | rfl <;> decide
theorem fig_nT {n : Nat} (h : n < 10 ^ 60) : figB (nT (n : Int)) = true := by
  have hl := len_nT h
  have e := My.len_tl (nT (n : Int))
  have hne := numL_ne n
  rw [tl_nT] at e
  have h1 : 1 ≤ (nT (n : Int)).length := by
    cases hh : numL n with
    | nil => exact absurd hh hne
    | cons a r =>
      rw [hh, List.length_cons] at e
      omega
  unfold figB ofB
  rw [decide_eq_true (show (1 : Int) ≤ ((nT (n : Int)).length : Int) by omega), decide_eq_true (show ((nT (n : Int)).length : Int) ≤ 60 by omega)]
  have h2 : inB "0123456789" (nT (n : Int)) = true := by
    unfold inB
    rw [tl_nT, List.all_eq_true]
    intro c hc
    exact decide_eq_true (dig_in (numL_digits n c hc))
  rw [h2]
  show nought (nT (n : Int)) = true
  unfold nought
  by_cases h0 : n = 0
  · subst h0
    decide
  · obtain ⟨c, r, ec, hc⟩ := numL_head n (by omega)
    rw [tl_nT, ec]
    rw [decide_eq_false (fun z : (c :: r).head? = some 48 => hc (Option.some.inj z)), Bool.not_false, Bool.or_true]
theorem int_nT {n : Nat} (h : n < 10 ^ 60) : intText? (nT (n : Int)) = some (n : Int) := int_num (by have := numL_len (k := 60) (by decide) h; omega)
theorem nT_ne (n : Nat) : ¬ V.str (nT (n : Int)) = V.str "" := fun e => by
  have e1 := congrArg (fun s : Str => s.cps.toList) (V.str.inj e)
  exact numL_ne n ((tl_nT n).symm.trans (e1.trans (by decide)))
theorem asc_numL {n c : Nat} (h : c ∈ numL n) : 48 ≤ c ∧ c ≤ 57 := numL_digits n c h
/-! ### words of spans -/
def sml (x : Option Int) : Prop := ∀ n, x = some n → 0 ≤ n ∧ n < 10 ^ 60
def good : Spn → Prop
  | (none, none) => False
  | (none, some n) => 1 ≤ n ∧ n < 10 ^ 60
  | (some a, none) => 0 ≤ a ∧ a < 10 ^ 60
  | (some a, some b) => 0 ≤ a ∧ a < b ∧ b < 10 ^ 60
theorem good_sml {sp : Spn} (h : good sp) : sml sp.1 ∧ sml sp.2 := by
  obtain ⟨a, b⟩ := sp
  cases a <;> cases b <;> simp only [good] at h <;> refine ⟨fun n e => ?_, fun n e => ?_⟩ <;> cases e <;> omega
theorem good_ends {sp : Spn} (h : good sp) : endsB sp.1 sp.2 = true := by
  obtain ⟨a, b⟩ := sp
  cases a <;> cases b <;> simp only [good] at h
  · exact decide_eq_true (by omega)
  · rfl
  · exact decide_eq_true (by omega)
def word (sp : Spn) : Str := nS sp.1 ++ ".." ++ nS sp.2
theorem nS_facts {x : Option Int} (h : sml x) : (nS x).length ≤ 60 ∧ endB (nS x) = true ∧ endV (nS x) = x ∧ ∀ c ∈ (nS x).cps.toList, 48 ≤ c ∧ c ≤ 57 := by
  cases x with
  | none => exact ⟨by decide, by decide, by decide, fun c hc => nomatch (show c ∈ ([] : List Nat) from hc)⟩
  | some i =>
    obtain ⟨h0, h1⟩ := h i rfl
    obtain ⟨n, rfl⟩ : ∃ n : Nat, i = n := ⟨i.toNat, by omega⟩
    have hn : n < 10 ^ 60 := by omega
    refine ⟨len_nT hn, ?_, ?_, fun c hc => ?_⟩
    · unfold endB
      rw [show figB (nS (some (n : Int))) = true from fig_nT hn, Bool.or_true]
    · show (if V.str (nT (n : Int)) = V.str "" then none else intText? (nT (n : Int))) = some (n : Int)
      rw [if_neg (nT_ne n)]
      exact int_nT hn
    · have hc' : c ∈ (nT (n : Int)).cps.toList := hc
      rw [tl_nT] at hc'
      exact asc_numL hc'
theorem word_len {sp : Spn} (h : good sp) : (word sp).length ≤ 122 := by
  have h1 := (nS_facts (good_sml h).1).1
  have h2 := (nS_facts (good_sml h).2).1
  have h3 : (".." : Str).length = 2 := by decide
  unfold word
  rw [len_app, len_app]
  omega
theorem app_tl (a b : Str) : (a ++ b).cps.toList = a.cps.toList ++ b.cps.toList := Array.toList_append
theorem word_tl (sp : Spn) : (word sp).cps.toList = (nS sp.1).cps.toList ++ [46, 46] ++ (nS sp.2).cps.toList := by
  unfold word
  rw [app_tl, app_tl, show (".." : Str).cps.toList = [46, 46] by decide]
theorem word_signs {sp : Spn} (h : good sp) : ∀ c ∈ (word sp).cps.toList, c = 46 ∨ (48 ≤ c ∧ c ≤ 57) := by
  intro c hc
  rw [word_tl] at hc
  rcases List.mem_append.mp hc with hc | hc
  · rcases List.mem_append.mp hc with hc | hc
    · exact .inr ((nS_facts (good_sml h).1).2.2.2 c hc)
    · simp only [List.mem_cons, List.not_mem_nil, or_false, or_self] at hc
      exact .inl hc
  · exact .inr ((nS_facts (good_sml h).2).2.2.2 c hc)
theorem span_word {sp : Spn} (h : good sp) : spanT (word sp) = some sp := by
  obtain ⟨h1, h2, h3, h4⟩ := nS_facts (good_sml h).1
  obtain ⟨k1, k2, k3, k4⟩ := nS_facts (good_sml h).2
  have e : Txt.partition (word sp) ".." = (nS sp.1, (".." : Str), nS sp.2) := partition_app (s := 46) (S := [46]) (by decide) fun hm => by
    have := h4 46 hm
    omega
  unfold spanT
  rw [e]
  dsimp only
  rw [if_neg (by decide), h2, k2, h3, k3, good_ends h]
  rfl
/-! ### their text -/
def txt (sps : List Spn) : Str := Txt.join "," (sps.map word)
theorem txt_nil : txt [] = "" := by
  unfold txt
  rw [join_eq]
  decide
theorem txt_split {sps : List Spn} (hne : sps ≠ []) (h : ∀ sp ∈ sps, good sp) : Txt.split (txt sps) "," = sps.map word :=
  split_join (s := 44) (S := []) (by decide) (by decide +kernel) (fun e => hne (List.map_eq_nil_iff.mp e)) fun p hp hm => by
    obtain ⟨sp, hsp, rfl⟩ := List.mem_map.mp hp
    have := word_signs (h sp hsp) 44 hm
    omega
theorem txt_len {sps : List Spn} (h : ∀ sp ∈ sps, good sp) : (txt sps).length ≤ sps.length * 123 := by
  have h1 := join_len "," (sps.map word)
  have h2 := sum_le (b := 122) (sps.map word) fun z hz => by
    obtain ⟨sp, hsp, rfl⟩ := List.mem_map.mp hz
    exact word_len (h sp hsp)
  have h3 : ("," : Str).length = 1 := by decide
  rw [List.length_map] at h1 h2
  rw [h3] at h1
  unfold txt
  omega
theorem joinL_in {S : List Nat} : ∀ {ps : List (List Nat)} {c : Nat}, c ∈ joinL S ps → c ∈ S ∨ ∃ p ∈ ps, c ∈ p
  | [], c, h => nomatch h
  | [p], c, h => .inr ⟨p, List.mem_cons_self .., h⟩
  | p :: q :: r, c, h => by
    have h' : c ∈ p ++ (S ++ joinL S (q :: r)) := h
    rcases List.mem_append.mp h' with h | h
    · exact .inr ⟨p, List.mem_cons_self .., h⟩
    · rcases List.mem_append.mp h with h | h
      · exact .inl h
      · rcases joinL_in h with h | ⟨x, hx, h⟩
        · exact .inl h
        · exact .inr ⟨x, List.mem_cons_of_mem _ hx, h⟩
theorem txt_asc {sps : List Spn} (h : ∀ sp ∈ sps, good sp) : ∀ c ∈ (txt sps).cps.toList, c < 128 := by
  intro c hc
  have e : (txt sps).cps.toList = joinL (tl ",") ((sps.map word).map tl) := by
    have := tl_join "," (sps.map word)
    rw [← join_eq] at this
    exact this
  rw [e] at hc
  rcases joinL_in hc with h1 | ⟨p, hp, h1⟩
  · exact (by decide : ∀ c ∈ tl ",", c < 128) c h1
  · obtain ⟨z, hz, rfl⟩ := List.mem_map.mp hp
    obtain ⟨sp, hsp, rfl⟩ := List.mem_map.mp hz
    have := word_signs (h sp hsp) c h1
    omega
theorem txt_ne {sp : Spn} {sps : List Spn} : ¬ V.str (txt (sp :: sps)) = V.str "" := fun e => by
  have e0 : (txt (sp :: sps)).cps.toList = joinL (tl ",") (((sp :: sps).map word).map tl) := by
    have := tl_join "," ((sp :: sps).map word)
    rw [← join_eq] at this
    exact this
  have e1 := congrArg (fun s : Str => s.cps.toList) (V.str.inj e)
  have e2 : joinL (tl ",") (tl (word sp) :: (sps.map word).map tl) = [] := e0.symm.trans (e1.trans (by decide))
  have e3 : tl (word sp) = [] := by
    cases hh : (sps.map word).map tl with
    | nil =>
      rw [hh] at e2
      exact e2
    | cons q r =>
      rw [hh] at e2
      have e4 : tl (word sp) ++ (tl "," ++ joinL (tl ",") (q :: r)) = [] := e2
      exact (List.append_eq_nil_iff.mp e4).1
  have e5 : (word sp).cps.toList = [] := e3
  rw [word_tl] at e5
  simp at e5
theorem log_small {i : Int} (h0 : 0 ≤ i) (h1 : i < 10 ^ 60) : i.natAbs.log2 < 1920 := by
  by_cases hz : i.natAbs = 0
  · rw [hz]
    decide
  · rw [Nat.log2_lt hz]
    have h3 : i.natAbs < 10 ^ 60 := by omega
    exact Nat.lt_of_lt_of_le h3 (Nat.le_trans (show 10 ^ 60 ≤ 2 ^ 200 by decide) (Nat.pow_le_pow_right (by decide) (by decide)))
theorem emp_app (z : Str) : Str.empty ++ z = z := PyProof.Rows.ext_toList (by rw [app_tl]; rfl)
section
variable {P : Program} {w : World} {K : PySem.W.Frag} {mg : Str → Option Value} {base : Heap}
def spShown : Sp := fun vs H Q _ => ∃ x : Option Int, vs = [oV x] ∧ sml x ∧ Q (.str (nS x)) H
theorem ok_end_shown (T : Txt K mg) : FnOk P w K mg base CX0 1 T.f_end_shown T.fd_end_shown ["end"] spShown := by
  refine T.d_end_shown.F.ok sc_end_shown (fun vs H Q E h => ?_) (fun cdv A outer s H vs Q E hr h => ?_)
  · obtain ⟨x, rfl, _⟩ := h
    rfl
  · obtain ⟨x, rfl, hx, q⟩ := h
    refine ⟨_, (pss_cons (ps_if (pt_cmpR op_isN (pv 0) pe_non (nomark _))
      (pss_one (ps_ret pe_str))
      pss_nil)
      (pss_one (ps_ret (pe_callTy call_str_int (by rfl) T.m_str (by decide +kernel) (pa_cons (pv 0) pa_nil))))), ?_⟩
    cases x with
    | none => exact ⟨.non, rfl, rfl, true, rfl, q⟩
    | some n =>
      obtain ⟨h0, h1⟩ := hx n rfl
      exact ⟨.int n, rfl, rfl, false, rfl, .int n, rfl, n, rfl, log_small h0 h1, q⟩
def tWord : TE := fun σ H Q => tJs [tFmt (tCall spShown [] E0 (tCons (tVar 1) tNil)), tC (.str ".."), tFmt (tCall spShown [] E0 (tCons (tVar 2) tNil))] Str.empty σ H fun out H1 => Q (.str out) H1
def spShow (K : PySem.W.Frag) : Sp := fun vs H Q _ => ∃ (a : Addr) (xs : List V) (sps : List Spn), vs = [.ref a] ∧ H a = some (.lst xs) ∧ Paired (PS2 H) xs sps ∧ (∀ sp ∈ sps, good sp) ∧ sps.length ≤ 1000 ∧ ∀ H', Same H H' → Q (.str (txt sps)) H'
def spShowT (K : PySem.W.Frag) : Sp := fun vs H Q _ => ∃ (a : Addr) (xs : List V) (sps : List Spn), vs = [.ref a] ∧ H a = some (.tup xs) ∧ Paired (PS2 H) xs sps ∧ (∀ sp ∈ sps, good sp) ∧ sps.length ≤ 1000 ∧ ∀ H', Same H H' → Q (.str (txt sps)) H'
theorem paired_at {α β : Type} {R : α → β → Prop} : ∀ {a : List α} {b : List β}, Paired R a b → ∀ {i : Nat} {x : α}, a[i]? = some x → ∃ y, b[i]? = some y ∧ R x y
  | _, _, .nil, i, x, h => by simp at h
  | _, _, .cons (a := u) (b := v) r t, 0, x, h => by
    cases h
    exact ⟨v, rfl, r⟩
  | _, _, .cons r t, i + 1, x, h => paired_at t h
theorem ok_show_spans (T : Txt K mg) : FnOk P w K mg base CX0 2 T.f_show_spans T.fd_show_spans ["spans"] (spShow K) := by
  refine T.d_show_spans.F.ok sc_show_spans (fun vs H Q E h => ?_) (fun cdv A outer s H vs Q E hr h => ?_)
  · obtain ⟨a, xs, sps, rfl, _⟩ := h
    rfl
  · obtain ⟨a, xs, sps, rfl, ha, hx, hg, hl, q⟩ := h
    have lx : xs.length = sps.length := Paired.length hx
    refine ⟨_, (pss_one (ps_ret (pe_join pe_str (pe_lc (own := [("start", 1), ("stop", 2)]) (g := gTup K 2 (gCons (gName 1) (gCons (gName 2) gNil))) (tt := tYes) (te := tWord) (by rfl) sc_show_spans.nd (pi_list (pv 0)) (blkOk_by (own := [("start", 1), ("stop", 2)]) (N := ["spans", "start", "stop"]) (sc := defScope s_show_spans) (by decide +kernel)) (fun _ _ _ _ _ => (pg_tup rfl (pgs_cons (pg_name (i := 1) sc_show_spans.nd rfl (Or.inl rfl)) (pgs_cons (pg_name (i := 2) sc_show_spans.nd rfl (Or.inl rfl)) pgs_nil)))) (fun _ _ _ _ _ => pts_nil) (fun _ _ _ _ _ => (pe_joined (.cons (pe_fmt (pe_call (ok_end_shown T) (hr.mono (by decide)) (by rfl) T.d_end_shown.g T.d_end_shown.F.kp T.d_end_shown.b .nil pass0 (pa_cons (pv 1) pa_nil))) (.cons pe_str (.cons (pe_fmt (pe_call (ok_end_shown T) (hr.mono (by decide)) (by rfl) T.d_end_shown.g T.d_end_shown.F.kp T.d_end_shown.b .nil pass0 (pa_cons (pv 2) pa_nil))) .nil))))))))), ?_⟩
    refine ⟨⟨_, rfl⟩, .ref a, rfl, a, rfl, ⟨_, SqL.of ha⟩, fun D hD => ?_⟩
    refine lc_list (K := K) (a := a) (xs := xs) (fun i H' => Same H H' ∧ H' D = some (.lst ((sps.take i).map fun sp => V.str (word sp)))) ⟨same_upd hD, upd_same⟩ (fun i H' _ pv => SqL.of (pv.1 _ _ ha)) ?_ ?_
    · rintro i x H1 hi ⟨sm, eD⟩
      obtain ⟨sp, hsp, t, rfl, ht⟩ := paired_at hx hi
      have hgs := hg sp (List.mem_of_getElem? hsp)
      obtain ⟨g1, g2⟩ := good_sml hgs
      have n1 := (nS_facts g1).1
      have n2 := (nS_facts g2).1
      have h3 : (".." : Str).length = 2 := by decide
      have h4 : Str.empty.length = 0 := rfl
      refine ⟨t, _, rfl, SqT.of (sm _ _ ht), rfl, _, _, rfl, _, _, rfl, rfl, rfl, ?_⟩
      refine ⟨_, rfl, sp.1, rfl, g1, .inl ⟨_, rfl, szl (by omega), _, rfl, by rw [len_app]; exact szl (by omega), _, rfl, by rw [len_app, len_app]; exact szl (by omega), _, rfl, sp.2, rfl, g2, .inl ⟨_, rfl, szl (by omega), _, rfl, by rw [len_app, len_app, len_app]; exact szl (by omega), _, eD, ?_, same_mut sm hD, ?_⟩⟩⟩
      · rw [List.length_map, List.length_take]
        exact szlt (by omega)
      · rw [upd_same, take_map _ hsp, emp_app]
        rfl
    · rintro H1 ⟨sm, eD⟩
      rw [lx, List.take_length] at eD
      refine ⟨_, D, sps.map word, rfl, rfl, .inl (SqL.of (by rw [eD, List.map_map]; rfl)), ?_, q _ sm⟩
      have h2 := sum_le (b := 122) (sps.map word) fun z hz => by
        obtain ⟨sp, hsp, rfl⟩ := List.mem_map.mp hz
        exact word_len (hg sp hsp)
      rw [List.length_map] at h2 ⊢
      show _ + sps.length * 1 ≤ _
      omega
theorem ok_show_spansT (T : Txt K mg) : FnOk P w K mg base CX0 2 T.f_show_spans T.fd_show_spans ["spans"] (spShowT K) := by
  refine T.d_show_spans.F.ok sc_show_spans (fun vs H Q E h => ?_) (fun cdv A outer s H vs Q E hr h => ?_)
  · obtain ⟨a, xs, sps, rfl, _⟩ := h
    rfl
  · obtain ⟨a, xs, sps, rfl, ha, hx, hg, hl, q⟩ := h
    have lx : xs.length = sps.length := Paired.length hx
    refine ⟨_, (pss_one (ps_ret (pe_join pe_str (pe_lc (own := [("start", 1), ("stop", 2)]) (g := gTup K 2 (gCons (gName 1) (gCons (gName 2) gNil))) (tt := tYes) (te := tWord) (by rfl) sc_show_spans.nd (pi_tup (pv 0)) (blkOk_by (own := [("start", 1), ("stop", 2)]) (N := ["spans", "start", "stop"]) (sc := defScope s_show_spans) (by decide +kernel)) (fun _ _ _ _ _ => (pg_tup rfl (pgs_cons (pg_name (i := 1) sc_show_spans.nd rfl (Or.inl rfl)) (pgs_cons (pg_name (i := 2) sc_show_spans.nd rfl (Or.inl rfl)) pgs_nil)))) (fun _ _ _ _ _ => pts_nil) (fun _ _ _ _ _ => (pe_joined (.cons (pe_fmt (pe_call (ok_end_shown T) (hr.mono (by decide)) (by rfl) T.d_end_shown.g T.d_end_shown.F.kp T.d_end_shown.b .nil pass0 (pa_cons (pv 1) pa_nil))) (.cons pe_str (.cons (pe_fmt (pe_call (ok_end_shown T) (hr.mono (by decide)) (by rfl) T.d_end_shown.g T.d_end_shown.F.kp T.d_end_shown.b .nil pass0 (pa_cons (pv 2) pa_nil))) .nil))))))))), ?_⟩
    refine ⟨⟨_, rfl⟩, .ref a, rfl, a, rfl, ⟨_, SqT.of ha⟩, fun D hD => ?_⟩
    refine lc_tup (K := K) (a := a) (xs := xs) (fun i H' => Same H H' ∧ H' D = some (.lst ((sps.take i).map fun sp => V.str (word sp)))) ⟨same_upd hD, upd_same⟩ (fun i H' _ pv => SqT.of (pv.1 _ _ ha)) ?_ ?_
    · rintro i x H1 hi ⟨sm, eD⟩
      obtain ⟨sp, hsp, t, rfl, ht⟩ := paired_at hx hi
      have hgs := hg sp (List.mem_of_getElem? hsp)
      obtain ⟨g1, g2⟩ := good_sml hgs
      have n1 := (nS_facts g1).1
      have n2 := (nS_facts g2).1
      have h3 : (".." : Str).length = 2 := by decide
      have h4 : Str.empty.length = 0 := rfl
      refine ⟨t, _, rfl, SqT.of (sm _ _ ht), rfl, _, _, rfl, _, _, rfl, rfl, rfl, ?_⟩
      refine ⟨_, rfl, sp.1, rfl, g1, .inl ⟨_, rfl, szl (by omega), _, rfl, by rw [len_app]; exact szl (by omega), _, rfl, by rw [len_app, len_app]; exact szl (by omega), _, rfl, sp.2, rfl, g2, .inl ⟨_, rfl, szl (by omega), _, rfl, by rw [len_app, len_app, len_app]; exact szl (by omega), _, eD, ?_, same_mut sm hD, ?_⟩⟩⟩
      · rw [List.length_map, List.length_take]
        exact szlt (by omega)
      · rw [upd_same, take_map _ hsp, emp_app]
        rfl
    · rintro H1 ⟨sm, eD⟩
      rw [lx, List.take_length] at eD
      refine ⟨_, D, sps.map word, rfl, rfl, .inl (SqL.of (by rw [eD, List.map_map]; rfl)), ?_, q _ sm⟩
      have h2 := sum_le (b := 122) (sps.map word) fun z hz => by
        obtain ⟨sp, hsp, rfl⟩ := List.mem_map.mp hz
        exact word_len (hg sp hsp)
      rw [List.length_map] at h2 ⊢
      show _ + sps.length * 1 ≤ _
      omega
end
end My
namespace My
open PySem PySem.Spec PyProof.Rows L2 TL
theorem ps2s_mono {H H' : Hp} {xs : List V} {rs : List Spn} (e : Same H H') (h : Paired (PS2 H) xs rs) : Paired (PS2 H') xs rs := Paired.mono (fun _ _ => PS2.mono e) h
theorem PS2.upd {H : Hp} {D : Addr} {u o : HO} {v : V} {sp : Spn} (hD : H D = some u) (hu : ∀ xs, u ≠ .tup xs) (h : PS2 H v sp) : PS2 (upd H D o) v sp := by
  obtain ⟨t, rfl, h⟩ := h
  refine ⟨t, rfl, ?_⟩
  rw [upd_ne]
  · exact h
  · intro z
    rw [z, hD] at h
    exact hu _ (Option.some.inj h)
theorem ps2s_upd {H : Hp} {D : Addr} {u o : HO} {xs : List V} {rs : List Spn} (hD : H D = some u) (hu : ∀ xs, u ≠ .tup xs) (h : Paired (PS2 H) xs rs) : Paired (PS2 (upd H D o)) xs rs := Paired.mono (fun _ _ => PS2.upd hD hu) h
theorem PS2.wx {W : Addr} {H H' : Hp} {v : V} {sp : Spn} (hI : IsW H W) (x : Wx W H H') (h : PS2 H v sp) : PS2 H' v sp := by
  obtain ⟨t, rfl, h⟩ := h
  refine ⟨t, rfl, x.keep t _ (fun z => ?_) h⟩
  obtain ⟨a, b, c, hw⟩ := hI
  rw [z, hw] at h
  cases h
theorem ps2s_wx {W : Addr} {H H' : Hp} {xs : List V} {rs : List Spn} (hI : IsW H W) (x : Wx W H H') (h : Paired (PS2 H) xs rs) : Paired (PS2 H') xs rs := Paired.mono (fun _ _ => PS2.wx hI x) h
theorem paired_app {α β : Type} {R : α → β → Prop} : ∀ {a : List α} {b : List β} {c : List α} {d : List β}, Paired R a b → Paired R c d → Paired R (a ++ c) (b ++ d)
  | _, _, _, _, .nil, h => h
  | _, _, _, _, .cons x t, h => .cons x (paired_app t h)
theorem paired_set {α β : Type} {R : α → β → Prop} {x : α} {y : β} (r : R x y) : ∀ {a : List α} {b : List β} (n : Nat), Paired R a b → Paired R (a.set n x) (b.set n y)
  | _, _, _, .nil => .nil
  | _, _, 0, .cons _ t => .cons r t
  | _, _, n + 1, .cons q t => .cons q (paired_set r n t)
section
variable {P : Program} {w : World} {K : PySem.W.Frag} {mg : Str → Option Value} {base : Heap}
def spRead : Sp := fun vs H Q _ => ∃ (sps : List Spn), vs = [.str (txt sps)] ∧ (∀ sp ∈ sps, good sp) ∧ sps.length ≤ 500 ∧ ∀ p xs H', Same H H' → H' p = some (.lst xs) → Paired (PS2 H') xs sps → Q (.ref p) H'
theorem ok_read_spans (T : Txt K mg) : FnOk P w K mg base CX0 5 T.f_read_spans T.fd_read_spans ["text"] spRead := by
  refine T.d_read_spans.F.ok sc_read_spans (fun vs H Q E h => ?_) (fun cdv A outer s H vs Q E hr h => ?_)
  · obtain ⟨sps, rfl, _⟩ := h
    rfl
  · obtain ⟨sps, rfl, hg, hl, q⟩ := h
    refine ⟨_, (pss_cons (ps_if (pt_cmpR op_eq (pv 0) pe_str (nomark _))
      (pss_one (ps_ret (pe_lst pa_nil)))
      pss_nil)
      (pss_cons (ps_set (i := 1) sc_read_spans.nd rfl (.inl rfl) (pe_lst pa_nil))
      (pss_cons (ps_for PassesOwn.never rfl (pi_enum (by rfl) T.m_enumerate (pa_cons (pe_split (pv 0) pe_str) pa_nil)) (pg_tup rfl (pgs_cons (pg_name (i := 2) sc_read_spans.nd rfl (.inl rfl)) (pgs_cons (pg_name (i := 3) sc_read_spans.nd rfl (.inl rfl)) pgs_nil)))
      (pss_cons (ps_set (i := 4) sc_read_spans.nd rfl (.inl rfl) (pe_call (ok_span_told T) (hr.mono (by decide)) (by rfl) T.d_span_told.g T.d_span_told.F.kp T.d_span_told.b .nil pass0 (pa_cons (pv 3) pa_nil)))
      (pss_cons (ps_if (pt_cmpR op_isN (pv 4) pe_non (nomark _))
      (pss_one ps_never)
      pss_nil)
      (pss_one (ps_expr (pe_bm PySem.F.plainAttrs_list PySem.F.slot_list_append PySem.F.type_list_append mt_append (pv 1) (pa_cons (pv 4) pa_nil)))))))
      (pss_one (ps_ret (pv 1)))))), ?_⟩
    have tlen := txt_len hg
    cases sps with
    | nil =>
      rw [txt_nil]
      exact ⟨_, rfl, rfl, true, rfl, Nat.zero_le _, fun p hp => q p [] _ (same_upd hp) upd_same .nil⟩
    | cons sp0 sps0 =>
      refine ⟨_, rfl, rfl, false, by rw [decide_eq_false txt_ne], ?_⟩
      refine ⟨Nat.zero_le _, fun L hL => ?_⟩
      have hsp := txt_split (List.cons_ne_nil sp0 sps0) hg
      have sL := same_upd (o := .lst []) hL
      refine ⟨_, rfl, ⟨_, rfl⟩, _, _, rfl, rfl, by decide, szl (by omega), fun p hp => ?_⟩
      rw [hsp]
      generalize hS : sp0 :: sps0 = S at *
      have sp1 := same_upd (o := .lst ((S.map word).map V.str)) hp
      have npL : p ≠ L := fun z => by
        rw [z, upd_same] at hp
        cases hp
      refine ⟨p, _, rfl, SqL.of upd_same, for_it (walk_enum (K := K) (a := p) (xs := (S.map word).map V.str)) (fun i σ H' => Same H H' ∧ H' p = some (.lst ((S.map word).map V.str)) ∧ ∃ xs, H' L = some (.lst xs) ∧ Paired (PS2 H') xs (S.take i) ∧ ∃ y2 y3 y4, σ = [some (.str (txt S)), some (.ref L), y2, y3, y4])
        ⟨sL.trans sp1, upd_same, [], sp1 _ _ upd_same, .nil, none, none, none, rfl⟩ (fun i σ H' _ pv => SqL.of pv.2.1) ?_ ?_⟩
      · rintro i x σ H1 H2 hi ⟨sm, ep, xs, eL, hxs, y2, y3, y4, rfl⟩ ⟨Tt, x1, x2, rfl, nT, rfl, f1, f2⟩
        rw [List.length_map, List.length_map] at hi
        have hk : S[i]? = some S[i] := List.getElem?_eq_getElem hi
        dsimp only at f1 f2
        rw [List.getElem?_map, List.getElem?_map, hk] at f2
        have e2 : .str (word S[i]) = x2 := Option.some.inj f2
        subst e2
        have hgs := hg S[i] (List.getElem_mem hi)
        have sT := same_upd (o := .tup [x1, .str (word S[i])]) nT
        have wl := word_len hgs
        refine ⟨Tt, _, rfl, .inl (.inl upd_same), rfl, _, _, rfl, _, _, rfl, rfl, ?_⟩
        refine ⟨_, rfl, _, rfl, by omega, fun v H3 s3 _ hv => ?_⟩
        have hv' := hv _ (span_word hgs)
        obtain ⟨t, rfl, ht⟩ := id hv'
        have eL3 := s3 _ _ (sT _ _ eL)
        refine ⟨_, rfl, rfl, false, rfl, ?_⟩
        refine ⟨.ref L, rfl, .inl ⟨rfl, _, SqL.of eL3⟩, _, rfl, L, _, _, rfl, rfl, eL3, ?_, same_mut ((sm.trans sT).trans s3) hL, ?_, xs ++ [.ref t], upd_same, ?_, _, _, _, rfl⟩
        · have := Paired.length hxs
          rw [List.length_take] at this
          exact szlt (by omega)
        · rw [upd_ne npL]
          exact s3 _ _ (sT _ _ ep)
        · rw [List.take_add_one, hk]
          exact ps2s_upd eL3 (fun _ z => by cases z) (paired_app (ps2s_mono (sT.trans s3) hxs) (.cons hv' .nil))
      · rintro σ H1 ⟨sm, ep, xs, eL, hxs, y2, y3, y4, rfl⟩
        rw [List.length_map, List.length_map, List.take_length] at hxs
        exact ⟨.ref L, rfl, q L xs H1 sm eL hxs⟩
/-! ### the law's own -/
def spGreat : Sp := fun vs H Q _ => ∃ (W : Addr), vs = [.ref W] ∧ IsW H W ∧ ∀ n H', 0 ≤ n → n < 10 ^ 56 → Wx W H H' → Q (.int n) H'
theorem ok_law_great (T : Txt K mg) : FnOk P w K mg base CX0 2 T.f_law_great T.fd_law_great ["_law_well_here"] spGreat := by
  refine T.d_law_great.F.ok sc_law_great (fun vs H Q E h => ?_) (fun cdv A outer s H vs Q E hr h => ?_)
  · obtain ⟨W, rfl, _⟩ := h
    rfl
  · obtain ⟨W, rfl, hI, q⟩ := h
    refine ⟨_, (pss_cons (ps_set (i := 1) sc_law_great.nd rfl (.inl rfl) pe_int)
      (pss_cons (ps_for PassesOwn.never rfl (pi_range1 (by rfl) T.m_range (pa_cons pe_int pa_nil)) (pg_name (i := 2) sc_law_great.nd rfl (.inl rfl))
      (pss_one (ps_set (i := 1) sc_law_great.nd rfl (.inl rfl) (pe_op op_add (pe_op op_mul (pv 1) (pe_op op_pow pe_int pe_int)) (pe_call (ok_law_draw T) (hr.mono (by decide)) (by rfl) T.d_law_draw.g T.d_law_draw.F.kp T.d_law_draw.b .nil pass0 (pa_cons (pv 0) (pa_cons (pe_op op_pow pe_int pe_int) pa_nil)))))))
      (pss_one (ps_ret (pv 1))))), ?_⟩
    refine ⟨7, rfl, by decide, by decide, for_range (lo := 0) (n := 7) (fun i σ H' => ∃ n : Int, 0 ≤ n ∧ n < 10 ^ (8 * i) ∧ Wx W H H' ∧ ∃ y, σ = [some (.ref W), some (.int n), y]) ⟨0, by decide, by decide, Wx.refl hI, none, rfl⟩ ?_ ?_⟩
    · rintro i σ H1 hi ⟨n, n0, n1, x1, y, rfl⟩
      refine ⟨.int n, rfl, 10, 8, rfl, rfl, ⟨by decide, by decide, by decide⟩, n, _, rfl, rfl, .inr ⟨by decide, by decide⟩, .ref W, rfl, 10, 8, rfl, rfl, ⟨by decide, by decide, by decide⟩, W, _, rfl, by decide, by decide, x1.well, fun r H2 r0 r1 x2 => ⟨_, r, rfl, rfl, _, ?_, ?_, x1.trans x2, _, rfl⟩⟩
      · have : 0 ≤ n * 10 ^ (8 : Int).toNat := Int.mul_nonneg n0 (by decide)
        omega
      · have e : (10 : Int) ^ (8 * (i + 1)) = 10 ^ (8 * i) * 100000000 := by rw [Nat.mul_add, Int.pow_add]; rfl
        have e2 : (10 : Int) ^ (8 : Int).toNat = 100000000 := by decide
        rw [e, e2]
        rw [e2] at r1
        omega
    · rintro σ H1 ⟨n, n0, n1, x1, y, rfl⟩
      exact ⟨_, rfl, q n H1 n0 (by simpa using n1) x1⟩
def spSp : Sp := fun vs H Q _ => ∃ (W : Addr), vs = [.ref W] ∧ IsW H W ∧ ∀ v sp H', good sp → Wx W H H' → PS2 H' v sp → Q v H'
theorem ok_law_span (T : Txt K mg) : FnOk P w K mg base CX0 3 T.f_law_span T.fd_law_span ["_law_well_here"] spSp := by
  refine T.d_law_span.F.ok sc_law_span (fun vs H Q E h => ?_) (fun cdv A outer s H vs Q E hr h => ?_)
  · obtain ⟨W, rfl, _⟩ := h
    rfl
  · obtain ⟨W, rfl, hI, q⟩ := h
    refine ⟨_, (pss_cons (ps_set (i := 1) sc_law_span.nd rfl (.inl rfl) (pe_call (ok_law_draw T) (hr.mono (by decide)) (by rfl) T.d_law_draw.g T.d_law_draw.F.kp T.d_law_draw.b .nil pass0 (pa_cons (pv 0) (pa_cons pe_int pa_nil))))
      (pss_cons (ps_set (i := 2) sc_law_span.nd rfl (.inl rfl) (pe_call (ok_law_draw T) (hr.mono (by decide)) (by rfl) T.d_law_draw.g T.d_law_draw.F.kp T.d_law_draw.b .nil pass0 (pa_cons (pv 0) (pa_cons pe_int pa_nil))))
      (pss_cons (ps_set (i := 3) sc_law_span.nd rfl (.inl rfl) (pe_call (ok_law_draw T) (hr.mono (by decide)) (by rfl) T.d_law_draw.g T.d_law_draw.F.kp T.d_law_draw.b .nil pass0 (pa_cons (pv 0) (pa_cons pe_int pa_nil))))
      (pss_cons (ps_set (i := 4) sc_law_span.nd rfl (.inl rfl) (pe_op op_add pe_int (pe_call (ok_law_draw T) (hr.mono (by decide)) (by rfl) T.d_law_draw.g T.d_law_draw.F.kp T.d_law_draw.b .nil pass0 (pa_cons (pv 0) (pa_cons pe_int pa_nil)))))
      (Evl.pss_cut (ps_if (pt_cmpR op_eq (pv 2) pe_int (nomark _))
      (pss_cons (ps_set (i := 3) sc_law_span.nd rfl (.inl rfl) (pe_call (ok_law_great T) (hr.mono (by decide)) (by rfl) T.d_law_great.g T.d_law_great.F.kp T.d_law_great.b .nil pass0 (pa_cons (pv 0) pa_nil)))
      (pss_one (ps_set (i := 4) sc_law_span.nd rfl (.inl rfl) (pe_op op_add pe_int (pe_call (ok_law_great T) (hr.mono (by decide)) (by rfl) T.d_law_great.g T.d_law_great.F.kp T.d_law_great.b .nil pass0 (pa_cons (pv 0) pa_nil))))))
      pss_nil)
      (Evl.pss_cut (ps_if (pt_cmpR op_eq (pv 2) pe_int (nomark _))
      (pss_cons (ps_set (i := 3) sc_law_span.nd rfl (.inl rfl) (pe_ix ix_list (pe_lst (pa_cons (pe_op op_sub (pe_op op_pow pe_int pe_int) pe_int) (pa_cons pe_int pa_nil))) (pe_op op_mod (pv 4) pe_int) (fun _ _ => rfl)))
      (pss_one (ps_set (i := 4) sc_law_span.nd rfl (.inl rfl) (pe_op op_sub (pe_op op_sub (pe_op op_pow pe_int pe_int) pe_int) (pv 3)))))
      pss_nil)
      (pss_cons (ps_if (pt_cmpR op_eq (pv 1) pe_int (nomark _))
      (pss_one (ps_ret (pe_tup (pa_cons (pv 3) (pa_cons pe_non pa_nil)))))
      pss_nil)
      (pss_cons (ps_if (pt_cmpR op_eq (pv 1) pe_int (nomark _))
      (pss_one (ps_ret (pe_tup (pa_cons pe_non (pa_cons (pv 4) pa_nil)))))
      pss_nil)
      (pss_one (ps_ret (pe_tup (pa_cons (pv 3) (pa_cons (pe_op op_add (pv 3) (pv 4)) pa_nil))))))))))))), ?_⟩
    refine ⟨.ref W, rfl, W, 5, rfl, by decide, by decide, hI, fun kd H1 _ _ x1 => ?_⟩
    refine ⟨.ref W, rfl, W, 5, rfl, by decide, by decide, x1.well, fun lt H2 _ _ x2 => ?_⟩
    refine ⟨.ref W, rfl, W, 12, rfl, by decide, by decide, x2.well, fun lw H3 lw0 lw1 x3 => ?_⟩
    refine ⟨.ref W, rfl, W, 30, rfl, by decide, by decide, x3.well, fun wd H4 wd0 wd1 x4 => ⟨1, wd, rfl, rfl, ?_⟩⟩
    have x04 := ((x1.trans x2).trans x3).trans x4
    have big : (31 : Int) + 31 < 10 ^ 56 := by decide
    have big2 : (10 : Int) ^ 56 + 10 ^ 56 + 1 < 10 ^ 60 := by decide
    refine ⟨fun σ' H' => ∃ low wide : Int, 0 ≤ low ∧ 1 ≤ wide ∧ low + wide < 10 ^ 60 ∧ Wx W H H' ∧ σ' = [some (.ref W), some (.int kd), some (.int lt), some (.int low), some (.int wide)], ?_, ?_⟩
    · refine ⟨.int lt, rfl, rfl, _, rfl, ite2 (fun e => ?_) (fun e => ?_)⟩
      · refine ⟨.ref W, rfl, W, rfl, x4.well, fun g1 H5 g10 g11 x5 => ?_⟩
        refine ⟨.ref W, rfl, W, rfl, x5.well, fun g2 H6 g20 g21 x6 => ⟨1, g2, rfl, rfl, g1, 1 + g2, g10, by omega, by omega, (x04.trans x5).trans x6, rfl⟩⟩
      · exact ⟨lw, 1 + wd, lw0, by omega, by omega, x04, rfl⟩
    · rintro σ' H5 ⟨low, wide, h0, h1, h2, x5, rfl⟩
      refine ⟨fun σ' H' => ∃ low wide : Int, 0 ≤ low ∧ 1 ≤ wide ∧ low + wide < 10 ^ 60 ∧ Wx W H H' ∧ σ' = [some (.ref W), some (.int kd), some (.int lt), some (.int low), some (.int wide)], ?_, ?_⟩
      · refine ⟨.int lt, rfl, rfl, _, rfl, ite2 (fun e => ?_) (fun e => ?_)⟩
        · refine ⟨10, 60, rfl, rfl, ⟨by decide, by decide, by decide⟩, _, 2, rfl, rfl, (by show 2 ≤ sizeLine; decide), fun p hp => ?_⟩
          have m2 := mod_lt (n := wide) (show (0 : Int) < 2 by decide)
          obtain ⟨v, hv, ev⟩ := ints_at (ns := [10 ^ (60 : Int).toNat - 2, 0]) m2.1 m2.2
          refine ⟨.int wide, rfl, wide, 2, rfl, rfl, (show (0 : Int) < 2 by decide), p, _, _, _, rfl, rfl, SqL.of upd_same, ev, ?_⟩
          refine ⟨10, 60, rfl, rfl, ⟨by decide, by decide, by decide⟩, _, 1, rfl, rfl, .int v, rfl, _, v, rfl, rfl, v, _, ?_, ?_, ?_, x5.new hp, rfl⟩
          · simp only [List.mem_cons, List.not_mem_nil, or_false] at hv
            rcases hv with rfl | rfl <;> decide
          · simp only [List.mem_cons, List.not_mem_nil, or_false] at hv
            rcases hv with rfl | rfl <;> decide
          · simp only [List.mem_cons, List.not_mem_nil, or_false] at hv
            rcases hv with rfl | rfl <;> decide
        · exact ⟨low, wide, h0, h1, h2, x5, rfl⟩
      · rintro σ' H6 ⟨low, wide, h0, h1, h2, x6, rfl⟩
        refine ⟨.int kd, rfl, rfl, _, rfl, ite2 (fun e => ?_) (fun e => ?_)⟩
        · exact ⟨.int low, rfl, (by show 2 ≤ sizeLine; decide), fun p hp => q _ (some low, none) _ ⟨h0, by omega⟩ (x6.new hp) ⟨p, rfl, upd_same⟩⟩
        refine ⟨.int kd, rfl, rfl, _, rfl, ite2 (fun e => ?_) (fun e => ?_)⟩
        · exact ⟨.int wide, rfl, (by show 2 ≤ sizeLine; decide), fun p hp => q _ (none, some wide) _ ⟨h1, by omega⟩ (x6.new hp) ⟨p, rfl, upd_same⟩⟩
        · exact ⟨.int low, rfl, .int low, rfl, .int wide, rfl, low, wide, rfl, rfl, (by show 2 ≤ sizeLine; decide), fun p hp => q _ (some low, some (low + wide)) _ ⟨h0, by omega, h2⟩ (x6.new hp) ⟨p, rfl, upd_same⟩⟩
theorem emp_l (z : Str) : ("" : Str) ++ z = z := PyProof.Rows.ext_toList (by rw [app_tl]; rfl)
theorem emp_r (z : Str) : z ++ ("" : Str) = z := PyProof.Rows.ext_toList (by rw [app_tl, show ("" : Str).cps.toList = [] by decide, List.append_nil])
def spWord : Sp := fun vs H Q _ => ∃ (v : V) (sp : Spn), vs = [v] ∧ PS2 H v sp ∧ good sp ∧ Q (.str (word sp)) H
theorem ok_law_word (T : Txt K mg) : FnOk P w K mg base CX0 1 T.f_law_word T.fd_law_word ["_law_span_here"] spWord := by
  refine T.d_law_word.F.ok sc_law_word (fun vs H Q E h => ?_) (fun cdv A outer s H vs Q E hr h => ?_)
  · obtain ⟨v, sp, rfl, _⟩ := h
    rfl
  · obtain ⟨v, sp, rfl, ⟨t, rfl, ht⟩, hg, q⟩ := h
    refine ⟨_, (pss_cons (ps_if (pt_cmpR op_isN (pe_ix ix_tup (pv 0) pe_int (fun _ _ => rfl)) pe_non (nomark _))
      (pss_one (ps_ret (pe_op op_add_str pe_str (pe_callTy call_str_int (by rfl) T.m_str (by decide +kernel) (pa_cons (pe_ix ix_tup (pv 0) pe_int (fun _ _ => rfl)) pa_nil)))))
      pss_nil)
      (pss_cons (ps_if (pt_cmpR op_isN (pe_ix ix_tup (pv 0) pe_int (fun _ _ => rfl)) pe_non (nomark _))
      (pss_one (ps_ret (pe_op op_add_str (pe_callTy call_str_int (by rfl) T.m_str (by decide +kernel) (pa_cons (pe_ix ix_tup (pv 0) pe_int (fun _ _ => rfl)) pa_nil)) pe_str)))
      pss_nil)
      (pss_one (ps_ret (pe_op op_add_str (pe_op op_add_str (pe_callTy call_str_int (by rfl) T.m_str (by decide +kernel) (pa_cons (pe_ix ix_tup (pv 0) pe_int (fun _ _ => rfl)) pa_nil)) pe_str) (pe_callTy call_str_int (by rfl) T.m_str (by decide +kernel) (pa_cons (pe_ix ix_tup (pv 0) pe_int (fun _ _ => rfl)) pa_nil))))))), ?_⟩
    obtain ⟨a, b⟩ := sp
    have i0 : atI [oV a, oV b] 0 = some (oV a) := rfl
    have i1 : atI [oV a, oV b] 1 = some (oV b) := rfl
    have hs := good_sml hg
    have l2 : (".." : Str).length = 2 := by decide
    cases a with
    | none =>
      cases b with
      | none => exact hg.elim
      | some b =>
        obtain ⟨b0, b1⟩ := hs.2 b rfl
        have n2 := (nS_facts hs.2).1
        have n2' : (nT b).length ≤ 60 := n2
        have e : word (none, some b) = ".." ++ nT b := by
          unfold word
          rw [show nS (none, some b).1 = "" from rfl, emp_l]
          rfl
        rw [e] at q
        exact ⟨.ref t, rfl, t, _, 0, _, rfl, rfl, SqT.of ht, i0, rfl, true, rfl, .ref t, rfl, t, _, 1, _, rfl, rfl, SqT.of ht, i1, b, rfl, log_small b0 b1, _, _, rfl, rfl, szl (by show _ + (nT b).length ≤ _; omega), q⟩
    | some a =>
      obtain ⟨a0, a1⟩ := hs.1 a rfl
      have n1 : (nT a).length ≤ 60 := (nS_facts hs.1).1
      cases b with
      | none =>
        have e : word (some a, none) = nT a ++ ".." := by
          unfold word
          rw [show nS (some a, none).2 = "" from rfl, emp_r]
          rfl
        rw [e] at q
        exact ⟨.ref t, rfl, t, _, 0, _, rfl, rfl, SqT.of ht, i0, rfl, false, rfl, .ref t, rfl, t, _, 1, _, rfl, rfl, SqT.of ht, i1, rfl, true, rfl, .ref t, rfl, t, _, 0, _, rfl, rfl, SqT.of ht, i0, a, rfl, log_small a0 a1, _, _, rfl, rfl, szl (by show (nT a).length + _ ≤ _; omega), q⟩
      | some b =>
        obtain ⟨b0, b1⟩ := hs.2 b rfl
        have n2 : (nT b).length ≤ 60 := (nS_facts hs.2).1
        exact ⟨.ref t, rfl, t, _, 0, _, rfl, rfl, SqT.of ht, i0, rfl, false, rfl, .ref t, rfl, t, _, 1, _, rfl, rfl, SqT.of ht, i1, rfl, false, rfl, .ref t, rfl, t, _, 0, _, rfl, rfl, SqT.of ht, i0, a, rfl, log_small a0 a1, _, _, rfl, rfl, szl (by show (nT a).length + _ ≤ _; omega), .ref t, rfl, t, _, 1, _, rfl, rfl, SqT.of ht, i1, b, rfl, log_small b0 b1, _, _, rfl, rfl, szl (by rw [len_app]; show (nT a).length + _ + (nT b).length ≤ _; omega), q⟩
theorem kit2 {K : PySem.W.Frag} {n m : String} {b : Bool} (h : kitB n m = some b) : PySem.W.kitOne K (.type n) (.type m) = some b := kit_ty h
def spIsSpan : Sp := fun vs H Q _ => ∃ (v : V) (sp : Spn), vs = [v] ∧ PS2 H v sp ∧ Q (.bl true) H
theorem ok_law_is_span (T : Txt K mg) : FnOk P w K mg base CX0 1 T.f_law_is_span T.fd_law_is_span ["_law_one"] spIsSpan := by
  refine T.d_law_is_span.F.ok sc_law_is_span (fun vs H Q E h => ?_) (fun cdv A outer s H vs Q E hr h => ?_)
  · obtain ⟨v, sp, rfl, _⟩ := h
    rfl
  · obtain ⟨v, sp, rfl, ⟨t, rfl, ht⟩, q⟩ := h
    refine ⟨_, (pss_cons (ps_if (PW.pt (pw_or (pt_not (pt_val (pe_callB call_isi (by rfl) T.m_isinstance (by decide +kernel) (pa_cons (pv 0) (pa_cons (pe_bltn (v := .ty "tuple") (by rfl) T.m_tuple (by decide +kernel) rfl) pa_nil))))) (pw_or1 (pt_cmpR op_ne (pe_callB call_len_seq (by rfl) T.m_len (by decide +kernel) (pa_cons (pv 0) pa_nil)) pe_int (nomark _)))))
      (pss_one (ps_ret pe_bl))
      pss_nil)
      (pss_cons (ps_for PassesOwn.never rfl (pi_tup (pv 0)) (pg_name (i := 1) sc_law_is_span.nd rfl (.inl rfl))
      (pss_one (ps_if (PW.pt (pw_and (pt_cmpR op_notN (pv 1) pe_non (nomark _)) (pw_and1 (PW.pt (pw_or (pt_not (pt_val (pe_callB call_isi (by rfl) T.m_isinstance (by decide +kernel) (pa_cons (pv 1) (pa_cons (pe_bltn (v := .ty "int") (by rfl) T.m_int (by decide +kernel) rfl) pa_nil))))) (pw_or1 (pt_val (pe_callB call_isi (by rfl) T.m_isinstance (by decide +kernel) (pa_cons (pv 1) (pa_cons (pe_bltn (v := .ty "bool") (by rfl) T.m_bool (by decide +kernel) rfl) pa_nil))))))))))
      (pss_one (ps_ret pe_bl))
      pss_nil)))
      (pss_one (ps_ret pe_bl)))), ?_⟩
    refine ⟨.ref t, rfl, .ref t, .ty "tuple", _, _, true, rfl, .ty "tuple", .base (.tup ht), kit2 (by decide +kernel), true, rfl, ?_⟩
    refine ⟨.ref t, rfl, t, _, rfl, .inr (SqT.of ht), rfl, false, rfl, ?_⟩
    refine ⟨.ref t, rfl, t, rfl, ⟨_, SqT.of ht⟩, for_tup (K := K) (xs := [oV sp.1, oV sp.2]) (fun i σ H' => H' = H ∧ ∃ y, σ = [some (.ref t), y]) ⟨rfl, none, rfl⟩ (fun i σ H' _ pv => by rw [pv.1]; exact SqT.of ht) ?_ ?_⟩
    · rintro i x σ H1 hi ⟨rfl, y, rfl⟩
      obtain ⟨o, rfl⟩ : ∃ o, x = oV o := by
        have := List.mem_of_getElem? hi
        simp only [List.mem_cons, List.not_mem_nil, or_false] at this
        rcases this with h | h
        · exact ⟨_, h⟩
        · exact ⟨_, h⟩
      cases o with
      | none => exact ⟨.non, rfl, rfl, false, rfl, rfl, _, rfl⟩
      | some n => exact ⟨.int n, rfl, rfl, true, rfl, .int n, rfl, .int n, .ty "int", _, _, true, rfl, .ty "int", .base (.int n), kit2 (by decide +kernel), true, rfl, .int n, rfl, .int n, .ty "bool", _, _, false, rfl, .ty "bool", .base (.int n), kit2 (by decide +kernel), false, rfl, rfl, _, rfl⟩
    · rintro σ H1 ⟨rfl, y, rfl⟩
      exact q
end
end My
namespace My
open PySem PySem.Spec PyProof.Rows L2 TL
/-! ### spans as data -/
def od : Option Int → PyData
  | none => .none
  | some n => .int n
def sd (sp : Spn) : PyData := .tuple [od sp.1, od sp.2]
theorem dp_od {K : PySem.W.Frag} {H : Hp} (x : Option Int) : Dp K H (oV x) (od x) := by
  cases x with
  | none => exact .non
  | some n => exact .int n
theorem dp_sps {K : PySem.W.Frag} {H : Hp} : ∀ {xs : List V} {rs : List Spn}, Paired (PS2 H) xs rs → DpAll K H xs (rs.map sd)
  | _, _, .nil => .nil
  | _, _, .cons h t => by
    obtain ⟨a, rfl, h⟩ := h
    exact .cons (.tup (SqT.of h) (.cons (dp_od _) (.cons (dp_od _) .nil))) (dp_sps t)
theorem lay_od (x : Option Int) : PyData.canLay0 (od x) = true := by cases x <;> simp [od, PyData.canLay0]
theorem depth_od (x : Option Int) : PyData.depth (od x) = 0 := by cases x <;> simp [od, PyData.depth]
theorem lay_sps : ∀ rs : List Spn, PyData.canLayAll0 (rs.map sd) = true
  | [] => rfl
  | r :: t => by simp [PyData.canLayAll0, PyData.canLay0, sd, lay_od, lay_sps t]
theorem depth_sps : ∀ rs : List Spn, PyData.depthAll (rs.map sd) ≤ 1
  | [] => Nat.zero_le _
  | r :: t => by
    have := depth_sps t
    simp only [List.map_cons, PyData.depthAll, sd, PyData.depth, depth_od]
    show max _ _ ≤ 1
    have e : max 0 (max 0 0) + 1 = 1 := rfl
    omega
theorem shaped_sps (rs : List Spn) : SeqAt.shaped (.list (rs.map sd)) = true := by
  have := depth_sps rs
  simp only [SeqAt.shaped, PyData.canLay0, PyData.depth, lay_sps rs, Bool.true_and]
  exact decide_eq_true (by omega)
theorem eqv_sps (rs : List Spn) : PyData.eqv (.list (rs.map sd)) (.list (rs.map sd)) = true := SeqAt.eqv_refl _ (by simp [PyData.canLay0, lay_sps rs])
section
variable {P : Program} {w : World} {K : PySem.W.Frag} {mg : Str → Option Value} {base : Heap}
theorem ok_law (T : Txt K mg) : FnOk P w K mg base CX0 6 T.f_law T.fd_law ["_law_script"] (spLaw K) := by
  refine T.d_law.F.ok sc_law (fun vs H Q E h => ?_) (fun cdv A outer s H vs Q E hr h => ?_)
  · obtain ⟨a, ns, rfl, _⟩ := h
    rfl
  · obtain ⟨a, ns, rfl, hS, hlen, q⟩ := h
    refine ⟨_, (pss_cons (ps_for PassesOwn.never rfl (pi_list (pe_op op_cat (pe_slice sl_list (pv 0) po_none (po_some pe_int)) (pe_lst (pa_cons pe_int (pa_cons pe_int (pa_cons pe_int pa_nil)))))) (pg_name (i := 1) sc_law.nd rfl (.inl rfl))
      (pss_cons (ps_set (i := 2) sc_law.nd rfl (.inr rfl) (pe_call (ok_law_well T) (hr.mono (by decide)) (by rfl) T.d_law_well.g T.d_law_well.F.kp T.d_law_well.b .nil pass0 (pa_cons (pv 1) pa_nil)))
      (pss_cons (ps_set (i := 3) sc_law.nd rfl (.inl rfl) (pe_ix ix_list (pe_lst (pa_cons pe_int (pa_cons pe_int (pa_cons pe_int (pa_cons pe_int (pa_cons pe_int (pa_cons pe_int (pa_cons pe_int (pa_cons pe_int pa_nil))))))))) (pe_call (ok_law_draw T) (hr.mono (by decide)) (by rfl) T.d_law_draw.g T.d_law_draw.F.kp T.d_law_draw.b .nil pass0 (pa_cons (pv 2) (pa_cons pe_int pa_nil))) (fun _ _ => rfl)))
      (pss_cons (ps_setLc (i := 4) (own := [("_law_k", 9)]) (g := gName 9) (tt := tYes) (by rfl) sc_law.nd rfl rfl (sw_true rfl rfl rfl (by decide +kernel)) (pi_range1 (by rfl) T.m_range (pa_cons (pv 3) pa_nil)) (blkOk_by (own := [("_law_k", 9)]) (N := ["_law_script", "_law_cell", "_law_well_here", "_law_many", "_law_spans", "_law_due", "_law_handed", "_law_texts", "_law_found", "_law_k", "_law_span_here", "_law_text", "_law_one"]) (sc := defScope s_law) (by decide +kernel)) (fun _ _ _ _ _ => (pg_name (i := 9) sc_law.nd rfl (Or.inl rfl))) (fun _ _ _ _ _ => pts_nil) (fun _ _ _ _ _ => (pe_call (ok_law_span T) (hr.mono (by decide)) (by rfl) T.d_law_span.g T.d_law_span.F.kp T.d_law_span.b .nil pass0 (pa_cons (pv 2) pa_nil))))
      (Evl.pss_cut (ps_if (PW.pt (pw_and (pt_cmpR op_gt (pv 3) pe_int (nomark _)) (pw_and1 (pt_cmpR op_eq (pe_call (ok_law_draw T) (hr.mono (by decide)) (by rfl) T.d_law_draw.g T.d_law_draw.F.kp T.d_law_draw.b .nil pass0 (pa_cons (pv 2) (pa_cons pe_int pa_nil))) pe_int (nomark _)))))
      (pss_one (ps_asg (pe_ix ix_list (pv 4) pe_int (fun _ _ => rfl)) (pg_sub (pv 4) (pe_call (ok_law_draw T) (hr.mono (by decide)) (by rfl) T.d_law_draw.g T.d_law_draw.F.kp T.d_law_draw.b .nil pass0 (pa_cons (pv 2) (pa_cons (pv 3) pa_nil))) set_list)))
      pss_nil)
      (pss_cons (ps_set (i := 5) sc_law.nd rfl (.inl rfl) (pe_join pe_str (pe_lc (own := [("_law_span_here", 10)]) (g := gName 10) (tt := tYes) (by rfl) sc_law.nd (pi_list (pv 4)) (blkOk_by (own := [("_law_span_here", 10)]) (N := ["_law_script", "_law_cell", "_law_well_here", "_law_many", "_law_spans", "_law_due", "_law_handed", "_law_texts", "_law_found", "_law_k", "_law_span_here", "_law_text", "_law_one"]) (sc := defScope s_law) (by decide +kernel)) (fun _ _ _ _ _ => (pg_name (i := 10) sc_law.nd rfl (Or.inl rfl))) (fun _ _ _ _ _ => pts_nil) (fun _ _ _ _ _ => (pe_call (ok_law_word T) (hr.mono (by decide)) (by rfl) T.d_law_word.g T.d_law_word.F.kp T.d_law_word.b .nil pass0 (pa_cons (pv 10) pa_nil))))))
      (pss_cons (ps_set (i := 6) sc_law.nd rfl (.inl rfl) (pe_callTy call_list_of (by rfl) T.m_list (by decide +kernel) (pa_cons (pv 4) pa_nil)))
      (pss_cons (ps_set (i := 7) sc_law.nd rfl (.inl rfl) (pe_lst (pa_cons (pe_call (ok_show_spans T) (hr.mono (by decide)) (by rfl) T.d_show_spans.g T.d_show_spans.F.kp T.d_show_spans.b .nil pass0 (pa_cons (pv 6) pa_nil)) (pa_cons (pe_call (ok_show_spansT T) (hr.mono (by decide)) (by rfl) T.d_show_spans.g T.d_show_spans.F.kp T.d_show_spans.b .nil pass0 (pa_cons (pe_callTy call_tuple_of (by rfl) T.m_tuple (by decide +kernel) (pa_cons (pv 4) pa_nil)) pa_nil)) pa_nil))))
      (pss_cons (ps_if (PW.pt (pw_or (pt_cmpR (op_neD hr.units) (pe_lc (own := [("_law_text", 11)]) (g := gName 11) (tt := tNot (tB (tCB (rIsi K) (tCons (tVar 11) (tCons (tC (.ty "str")) tNil))))) (by rfl) sc_law.nd (pi_list (pv 7)) (blkOk_by (own := [("_law_text", 11)]) (N := ["_law_script", "_law_cell", "_law_well_here", "_law_many", "_law_spans", "_law_due", "_law_handed", "_law_texts", "_law_found", "_law_k", "_law_span_here", "_law_text", "_law_one"]) (sc := defScope s_law) (by decide +kernel)) (fun _ _ _ _ _ => (pg_name (i := 11) sc_law.nd rfl (Or.inl rfl))) (fun _ _ _ _ _ => (pts_one (pt_not (pt_val (pe_callB call_isi (by rfl) T.m_isinstance (by decide +kernel) (pa_cons (pv 11) (pa_cons (pe_bltn (v := .ty "str") (by rfl) T.m_str (by decide +kernel) rfl) pa_nil))))))) (fun _ _ _ _ _ => (pv 11))) (pe_lst pa_nil) (nomark _)) (pw_or1 (pt_cmpR (op_neD hr.units) (pv 7) (pe_lst (pa_cons (pv 5) (pa_cons (pv 5) pa_nil))) (nomark _)))))
      (pss_one (ps_ret pe_bl))
      pss_nil)
      (pss_cons (ps_set (i := 8) sc_law.nd rfl (.inl rfl) (pe_call (ok_read_spans T) (hr.mono (by decide)) (by rfl) T.d_read_spans.g T.d_read_spans.F.kp T.d_read_spans.b .nil pass0 (pa_cons (pv 5) pa_nil)))
      (pss_cons (ps_if (PW.pt (pw_or (pt_cmpR (op_neD hr.units) (pv 6) (pv 4) (nomark _)) (pw_or1 (pt_not (pt_val (pe_callB call_isi (by rfl) T.m_isinstance (by decide +kernel) (pa_cons (pv 8) (pa_cons (pe_bltn (v := .ty "list") (by rfl) T.m_list (by decide +kernel) rfl) pa_nil))))))))
      (pss_one (ps_ret pe_bl))
      pss_nil)
      (pss_one (ps_if (PW.pt (pw_or (pt_cmpR (op_neD hr.units) (pe_lc (own := [("_law_one", 12)]) (g := gName 12) (by rfl) sc_law.nd (pi_list (pv 8)) (blkOk_by (own := [("_law_one", 12)]) (N := ["_law_script", "_law_cell", "_law_well_here", "_law_many", "_law_spans", "_law_due", "_law_handed", "_law_texts", "_law_found", "_law_k", "_law_span_here", "_law_text", "_law_one"]) (sc := defScope s_law) (by decide +kernel)) (fun _ _ _ _ _ => (pg_name (i := 12) sc_law.nd rfl (Or.inl rfl))) (fun _ _ _ _ _ => (pts_one (pt_not (pt_val (pe_call (ok_law_is_span T) (hr.mono (by decide)) (by rfl) T.d_law_is_span.g T.d_law_is_span.F.kp T.d_law_is_span.b .nil pass0 (pa_cons (pv 12) pa_nil)))))) (fun _ _ _ _ _ => (pv 12))) (pe_lst pa_nil) (nomark _)) (pw_or1 (pt_cmpR (op_neD hr.units) (pv 8) (pv 4) (nomark _)))))
      (pss_one (ps_ret pe_bl))
      pss_nil)))))))))))))
      (pss_one (ps_ret pe_bl))), ?_⟩
    obtain ⟨ms, em, lm⟩ := cutV_map V.int ns none (some 24)
    refine ⟨.ref a, rfl, 24, rfl, a, _, rfl, hS, fun p1 h1 => ⟨(by show 3 ≤ sizeLine; decide), fun p2 h2 => ?_⟩⟩
    refine ⟨p1, p2, _, _, rfl, rfl, (same_upd h2) _ _ upd_same, upd_same, by rw [em, List.length_map]; exact szl (by show ms.length + 3 ≤ _; omega), fun p3 h3 => ?_⟩
    have ec : cutV (ns.map V.int) none (some 24) ++ [.int 0, .int 4, .int 9] = (ms ++ [0, 4, 9]).map V.int := by
      rw [em, List.map_append]
      rfl
    rw [ec]
    refine ⟨p3, rfl, ⟨_, SqL.of upd_same⟩, for_list (K := K) (a := p3) (xs := (ms ++ [0, 4, 9]).map V.int) (fun i σ H' => H' p3 = some (.lst ((ms ++ [0, 4, 9]).map V.int)) ∧ ∃ y1 y2 y3 y4 y5 y6 y7 y8, σ = [some (.ref a), y1, y2, y3, y4, y5, y6, y7, y8, none, none, none, none])
      ⟨upd_same, none, none, none, none, none, none, none, none, rfl⟩ (fun i σ H' _ pv => SqL.of pv.1) ?_ ?_⟩
    · rintro i x σ H0 hx ⟨e30, y1, y2, y3, y4, y5, y6, y7, y8, rfl⟩
      obtain ⟨n, rfl⟩ := int_at hx
      refine ⟨.int n, rfl, n, rfl, fun W wa wb wc hW => ?_⟩
      have hI0 : IsW (upd H0 W (W3 wa wb wc)) W := ⟨wa, wb, wc, upd_same⟩
      have nWp : p3 ≠ W := ne_of_none e30 hW
      refine ⟨(by show 8 ≤ sizeLine; decide), fun p hp => ?_⟩
      have x0 := (Wx.refl hI0).new (o := .lst (([0, 1, 2, 3, 4, 5, 9, 60] : List Int).map V.int)) hp
      refine ⟨.ref W, rfl, W, 8, rfl, by decide, by decide, x0.well, fun r H1 r0 r1 x1 => ?_⟩
      obtain ⟨m, hm, emm⟩ := ints_at (ns := [0, 1, 2, 3, 4, 5, 9, 60]) r0 r1
      have bm : 0 ≤ m ∧ m ≤ 60 := (by decide : ∀ n ∈ ([0, 1, 2, 3, 4, 5, 9, 60] : List Int), 0 ≤ n ∧ n ≤ 60) m hm
      refine ⟨p, _, r, _, rfl, rfl, SqL.of (x1.keep p _ (hI0.ne hp).symm upd_same), emm, ?_⟩
      have x01 := x0.trans x1
      have e31 : H1 p3 = some (.lst ((ms ++ [0, 4, 9]).map V.int)) := x01.keep _ _ nWp ((same_upd hW) _ _ e30)
      -- spans
      refine ⟨.int m, rfl, m, rfl, by omega, by omega, fun D hD => ?_⟩
      have nD : W ≠ D := x1.well.ne hD
      have nDp : p3 ≠ D := ne_of_none e31 hD
      refine lc_range (lo := 0) (n := m.toNat) (fun j H' => Wx W H1 H' ∧ ∃ xs sps, H' D = some (.lst xs) ∧ Paired (PS2 H') xs sps ∧ sps.length = j ∧ ∀ sp ∈ sps, good sp) ⟨(Wx.refl x1.well).new hD, [], [], upd_same, .nil, rfl, fun _ h => nomatch h⟩ ?_ ?_
      · rintro j H2 hj ⟨x2, xs, sps, eD, hxs, ls, hg⟩
        refine ⟨rfl, .ref W, rfl, W, rfl, x2.well, fun v sp H5 hgs x5 hv => ?_⟩
        have eD5 := x5.keep _ _ nD.symm eD
        refine ⟨xs, eD5, by rw [Paired.length hxs]; exact szlt (by omega), (x2.trans x5).mut hD nD, xs ++ [v], sps ++ [sp], upd_same, ps2s_upd eD5 (fun _ z => by cases z) (paired_app (ps2s_wx x2.well x5 hxs) (.cons hv .nil)), by rw [List.length_append, ls]; rfl, ?_⟩
        intro s hs
        rcases List.mem_append.mp hs with h | h
        · exact hg s h
        · rw [List.mem_singleton.mp h]
          exact hgs
      · rintro H2 ⟨x2, xs, sps, eD, hxs, ls, hg⟩
        have e32 := x2.keep _ _ nWp e31
        refine ⟨fun σ' H' => ∃ xs sps, H' p3 = some (.lst ((ms ++ [0, 4, 9]).map V.int)) ∧ H' D = some (.lst xs) ∧ Paired (PS2 H') xs sps ∧ sps.length = m.toNat ∧ (∀ sp ∈ sps, good sp) ∧ σ' = [some (.ref a), some (.int n), some (.ref W), some (.int m), some (.ref D), y5, y6, y7, y8, none, none, none, none], ?_, ?_⟩
        · refine ⟨.int m, rfl, m, 1, rfl, rfl, _, rfl, ite2 (fun e => ?_) (fun e => ?_)⟩
          · have m1 : 1 < m := of_decide_eq_true e
            refine ⟨.ref W, rfl, W, 3, rfl, by decide, by decide, x2.well, fun r3 H3 _ _ x3 => ⟨rfl, _, rfl, ?_⟩⟩
            have eD3 := x3.keep _ _ nD.symm eD
            have hxs3 := ps2s_wx x2.well x3 hxs
            refine ite2 (fun e3 => ?_) (fun e3 => ?_)
            · have lx : xs.length = sps.length := Paired.length hxs
              obtain ⟨v0, hv0⟩ : ∃ v0, xs[0]? = some v0 := ⟨xs[0]'(by omega), List.getElem?_eq_getElem (by omega)⟩
              obtain ⟨s0, hs0, hp0⟩ := paired_at hxs3 hv0
              refine ⟨.ref D, rfl, D, _, 0, v0, rfl, rfl, SqL.of eD3, atI_nat (j := 0) hv0, .ref D, rfl, .ref W, rfl, .int m, rfl, W, m, rfl, by omega, by omega, x3.well, fun r4 H4 r40 r41 x4 => ?_⟩
              have eD4 := x4.keep _ _ nD.symm eD3
              obtain ⟨j, rfl⟩ : ∃ j : Nat, r4 = j := ⟨r4.toNat, by omega⟩
              refine ⟨D, _, _, j, rfl, rfl, eD4, Evl.ixN_nat (by omega), xs.set j v0, sps.set j s0, ?_, upd_same, ps2s_upd eD4 (fun _ z => by cases z) (paired_set (PS2.wx x3.well x4 hp0) j (ps2s_wx x3.well x4 hxs3)), by rw [List.length_set]; exact ls, ?_, rfl⟩
              · rw [upd_ne nDp]
                exact x4.keep _ _ nWp (x3.keep _ _ nWp e32)
              · intro s hs
                rcases List.mem_or_eq_of_mem_set hs with h | h
                · exact hg s h
                · rw [h]
                  exact hg s0 (List.mem_of_getElem? hs0)
            · exact ⟨xs, sps, x3.keep _ _ nWp e32, eD3, hxs3, ls, hg, rfl⟩
          · exact ⟨xs, sps, e32, eD, hxs, ls, hg, rfl⟩
        · clear hxs hg ls eD e32 x2
          rintro σ' H6 ⟨xs, sps, e36, eD6, hxs6, ls, hg, rfl⟩
          have lx : xs.length = sps.length := Paired.length hxs6
          have hasc := txt_asc hg
          -- due
          refine ⟨⟨_, rfl⟩, .ref D, rfl, D, rfl, ⟨_, SqL.of eD6⟩, fun D2 hD2 => ?_⟩
          refine lc_list (K := K) (a := D) (xs := xs) (fun j H' => Same H6 H' ∧ H' D2 = some (.lst ((sps.take j).map fun sp => V.str (word sp)))) ⟨same_upd hD2, upd_same⟩ (fun j H' _ pv => SqL.of (pv.1 _ _ eD6)) ?_ ?_
          · rintro j v H7 hj ⟨s7, eD2⟩
            obtain ⟨sp, hsp, hp⟩ := paired_at hxs6 hj
            refine ⟨rfl, v, rfl, v, sp, rfl, hp.mono s7, hg sp (List.mem_of_getElem? hsp), _, eD2, by rw [List.length_map, List.length_take]; exact szlt (by omega), same_mut s7 hD2, by rw [upd_same, take_map _ hsp]⟩
          · rintro H7 ⟨s7, eD2⟩
            rw [lx, List.take_length] at eD2
            have h2 := sum_le (b := 122) (sps.map word) fun z hz => by
              obtain ⟨sp, hsp, rfl⟩ := List.mem_map.mp hz
              exact word_len (hg sp hsp)
            rw [List.length_map] at h2
            refine ⟨_, D2, sps.map word, rfl, rfl, .inl (SqL.of (by rw [eD2, List.map_map]; rfl)), ?_, ?_⟩
            · rw [List.length_map]
              show _ + sps.length * 1 ≤ _
              omega
            -- handed
            refine ⟨.ref D, rfl, D, _, rfl, .inl (SqL.of (s7 _ _ eD6)), fun l hl => ?_⟩
            have s8 := s7.trans (same_upd (o := .lst xs) hl)
            refine ⟨.ref l, rfl, l, xs, sps, rfl, upd_same, ps2s_mono s8 hxs6, hg, by omega, fun H9 s9 => ?_⟩
            have s69 := s8.trans s9
            refine ⟨.ref D, rfl, D, _, rfl, .inl ⟨SqL.of (s69 _ _ eD6), fun tp htp => ?_⟩⟩
            have s10 := same_upd (o := .tup xs) htp
            refine ⟨tp, xs, sps, rfl, upd_same, ps2s_mono (s69.trans s10) hxs6, hg, by omega, fun H11 s11 => ⟨(by show 2 ≤ sizeLine; decide), fun px hpx => ?_⟩⟩
            have s12 := same_upd (o := .lst [.str (txt sps), .str (txt sps)]) hpx
            have t12 := ((s69.trans s10).trans s11).trans s12
            have el12 : (upd H11 px (.lst [.str (txt sps), .str (txt sps)])) l = some (.lst xs) := s12 _ _ (s11 _ _ (s10 _ _ (s9 _ _ upd_same)))
            -- the texts
            refine ⟨.ref px, rfl, px, rfl, ⟨_, SqL.of upd_same⟩, fun D3 hD3 => ?_⟩
            refine lc_list (K := K) (a := px) (xs := [.str (txt sps), .str (txt sps)]) (fun j H' => Same (upd H11 px (.lst [.str (txt sps), .str (txt sps)])) H' ∧ H' D3 = some (.lst [])) ⟨same_upd hD3, upd_same⟩ (fun j H' _ pv => SqL.of (pv.1 _ _ upd_same)) ?_ ?_
            · rintro j v H13 hj ⟨s13, e13⟩
              obtain ⟨z, rfl⟩ : ∃ z, v = V.str z := by
                have := List.mem_of_getElem? hj
                simp only [List.mem_cons, List.not_mem_nil, or_false, or_self] at this
                exact ⟨_, this⟩
              exact ⟨rfl, .str z, rfl, .str z, .ty "str", _, _, true, rfl, .ty "str", .base (.str z), kit_str, true, rfl, s13, e13⟩
            · rintro H13 ⟨s13, e13⟩
              refine ⟨Nat.zero_le _, fun p14 h14 => ?_⟩
              have s14 := same_upd (o := .lst []) h14
              refine ⟨.list [], .list [], .lst (SqL.of (s14 _ _ e13)) .nil, .lst (SqL.of upd_same) .nil, by decide, by decide, false, by decide, ?_⟩
              refine ⟨.ref px, rfl, _, rfl, _, rfl, (by show 2 ≤ sizeLine; decide), fun p15 h15 => ?_⟩
              have s15 := same_upd (o := .lst [.str (txt sps), .str (txt sps)]) h15
              have t15 := (s13.trans s14).trans s15
              have sh : SeqAt.shaped (.list ([txt sps, txt sps].map PyData.str)) = true := shaped_strs _ fun z hz => by
                simp only [List.mem_cons, List.not_mem_nil, or_false, or_self] at hz
                rw [hz]
                exact hasc
              have ev : PyData.eqv (.list ([txt sps, txt sps].map PyData.str)) (.list ([txt sps, txt sps].map PyData.str)) = true := SeqAt.eqv_refl _ (SeqAt.canLay_of_shaped sh)
              refine ⟨.list ([txt sps, txt sps].map PyData.str), .list ([txt sps, txt sps].map PyData.str), .lst (SqL.of (t15 _ _ upd_same)) (dp_strs [txt sps, txt sps]), .lst (SqL.of upd_same) (dp_strs [txt sps, txt sps]), sh, sh, false, by rw [ev]; rfl, ?_⟩
              -- found
              refine ⟨_, rfl, sps, rfl, hg, by omega, fun pf xf H16 s16 hpf hxf => ?_⟩
              have t16 := (t12.trans t15).trans s16
              have el16 := s16 _ _ (t15 _ _ el12)
              have eD16 := t16 _ _ eD6
              have hx16 := ps2s_mono t16 hxs6
              refine ⟨.ref l, rfl, .ref D, rfl, .list (sps.map sd), .list (sps.map sd), .lst (SqL.of el16) (dp_sps hx16), .lst (SqL.of eD16) (dp_sps hx16), shaped_sps _, shaped_sps _, false, by rw [eqv_sps]; rfl, ?_⟩
              refine ⟨.ref pf, rfl, .ref pf, .ty "list", _, _, true, rfl, .ty "list", .base (.lst hpf), kit2 (by decide +kernel), true, rfl, ?_⟩
              refine ⟨.ref pf, rfl, pf, rfl, ⟨_, SqL.of hpf⟩, fun D4 hD4 => ?_⟩
              refine lc_list (K := K) (a := pf) (xs := xf) (fun j H' => Same H16 H' ∧ H' D4 = some (.lst [])) ⟨same_upd hD4, upd_same⟩ (fun j H' _ pv => SqL.of (pv.1 _ _ hpf)) ?_ ?_
              · rintro j v H17 hj ⟨s17, e17⟩
                obtain ⟨sp, hsp, hp⟩ := paired_at hxf hj
                exact ⟨rfl, v, rfl, v, sp, rfl, hp.mono s17, true, rfl, s17, e17⟩
              · rintro H17 ⟨s17, e17⟩
                refine ⟨Nat.zero_le _, fun p18 h18 => ?_⟩
                have s18 := same_upd (o := .lst []) h18
                refine ⟨.list [], .list [], .lst (SqL.of (s18 _ _ e17)) .nil, .lst (SqL.of upd_same) .nil, by decide, by decide, false, by decide, ?_⟩
                have t18 := s17.trans s18
                refine ⟨.ref pf, rfl, .ref D, rfl, .list (sps.map sd), .list (sps.map sd), .lst (SqL.of (t18 _ _ hpf)) (dp_sps (ps2s_mono t18 hxf)), .lst (SqL.of (t18 _ _ eD16)) (dp_sps (ps2s_mono t18 hx16)), shaped_sps _, shaped_sps _, false, by rw [eqv_sps]; rfl, ?_⟩
                exact ⟨t18 _ _ (t16 _ _ e36), _, _, _, _, _, _, _, _, rfl⟩
    · rintro σ H1 ⟨e3, y1, y2, y3, y4, y5, y6, y7, y8, rfl⟩
      exact q _
end
theorem all_mk {l : PySem.W.OpenLaw} {w : World} {K : PySem.W.Frag} {h : Heap} {mg : Str → Option Value} {fa : Addr} (X : K.In h) (G : h.Ns mainGlobals mg) (hfa : mg "law" = some (.ref fa))
    {f0 : Addr} {od0 an0 : Option Addr} {sl0 : Array (Option Value)} {oc0 kV0 dc0 pm0 cd0 ct0 : Value}
    (a0 : PySem.W.nsIn K mainGlobals "is_made_of" = some (some (.ref f0))) (l0 : K.lookup f0 = some ⟨oc0, od0, .func (PySem.W.fnOf "is_made_of" "is_made_of" (defArgs s_is_made_of) (defBody s_is_made_of) (defScope s_is_made_of) .none kV0 dc0 pm0 an0 cd0 ct0), sl0⟩) (c0 : PySem.W.codeIn K cd0 "is_made_of" = true) (k0 : PySem.W.keepIn K (.ref f0) = true)
    {f1 : Addr} {od1 an1 : Option Addr} {sl1 : Array (Option Value)} {oc1 kV1 dc1 pm1 cd1 ct1 : Value}
    (a1 : PySem.W.nsIn K mainGlobals "is_figures" = some (some (.ref f1))) (l1 : K.lookup f1 = some ⟨oc1, od1, .func (PySem.W.fnOf "is_figures" "is_figures" (defArgs s_is_figures) (defBody s_is_figures) (defScope s_is_figures) .none kV1 dc1 pm1 an1 cd1 ct1), sl1⟩) (c1 : PySem.W.codeIn K cd1 "is_figures" = true) (k1 : PySem.W.keepIn K (.ref f1) = true)
    {f2 : Addr} {od2 an2 : Option Addr} {sl2 : Array (Option Value)} {oc2 kV2 dc2 pm2 cd2 ct2 : Value}
    (a2 : PySem.W.nsIn K mainGlobals "read_spans" = some (some (.ref f2))) (l2 : K.lookup f2 = some ⟨oc2, od2, .func (PySem.W.fnOf "read_spans" "read_spans" (defArgs s_read_spans) (defBody s_read_spans) (defScope s_read_spans) .none kV2 dc2 pm2 an2 cd2 ct2), sl2⟩) (c2 : PySem.W.codeIn K cd2 "read_spans" = true) (k2 : PySem.W.keepIn K (.ref f2) = true)
    {f3 : Addr} {od3 an3 : Option Addr} {sl3 : Array (Option Value)} {oc3 kV3 dc3 pm3 cd3 ct3 : Value}
    (a3 : PySem.W.nsIn K mainGlobals "span_told" = some (some (.ref f3))) (l3 : K.lookup f3 = some ⟨oc3, od3, .func (PySem.W.fnOf "span_told" "span_told" (defArgs s_span_told) (defBody s_span_told) (defScope s_span_told) .none kV3 dc3 pm3 an3 cd3 ct3), sl3⟩) (c3 : PySem.W.codeIn K cd3 "span_told" = true) (k3 : PySem.W.keepIn K (.ref f3) = true)
    {f4 : Addr} {od4 an4 : Option Addr} {sl4 : Array (Option Value)} {oc4 kV4 dc4 pm4 cd4 ct4 : Value}
    (a4 : PySem.W.nsIn K mainGlobals "is_end" = some (some (.ref f4))) (l4 : K.lookup f4 = some ⟨oc4, od4, .func (PySem.W.fnOf "is_end" "is_end" (defArgs s_is_end) (defBody s_is_end) (defScope s_is_end) .none kV4 dc4 pm4 an4 cd4 ct4), sl4⟩) (c4 : PySem.W.codeIn K cd4 "is_end" = true) (k4 : PySem.W.keepIn K (.ref f4) = true)
    {f5 : Addr} {od5 an5 : Option Addr} {sl5 : Array (Option Value)} {oc5 kV5 dc5 pm5 cd5 ct5 : Value}
    (a5 : PySem.W.nsIn K mainGlobals "end_told" = some (some (.ref f5))) (l5 : K.lookup f5 = some ⟨oc5, od5, .func (PySem.W.fnOf "end_told" "end_told" (defArgs s_end_told) (defBody s_end_told) (defScope s_end_told) .none kV5 dc5 pm5 an5 cd5 ct5), sl5⟩) (c5 : PySem.W.codeIn K cd5 "end_told" = true) (k5 : PySem.W.keepIn K (.ref f5) = true)
    {f6 : Addr} {od6 an6 : Option Addr} {sl6 : Array (Option Value)} {oc6 kV6 dc6 pm6 cd6 ct6 : Value}
    (a6 : PySem.W.nsIn K mainGlobals "are_ends" = some (some (.ref f6))) (l6 : K.lookup f6 = some ⟨oc6, od6, .func (PySem.W.fnOf "are_ends" "are_ends" (defArgs s_are_ends) (defBody s_are_ends) (defScope s_are_ends) .none kV6 dc6 pm6 an6 cd6 ct6), sl6⟩) (c6 : PySem.W.codeIn K cd6 "are_ends" = true) (k6 : PySem.W.keepIn K (.ref f6) = true)
    {f7 : Addr} {od7 an7 : Option Addr} {sl7 : Array (Option Value)} {oc7 kV7 dc7 pm7 cd7 ct7 : Value}
    (a7 : PySem.W.nsIn K mainGlobals "show_spans" = some (some (.ref f7))) (l7 : K.lookup f7 = some ⟨oc7, od7, .func (PySem.W.fnOf "show_spans" "show_spans" (defArgs s_show_spans) (defBody s_show_spans) (defScope s_show_spans) .none kV7 dc7 pm7 an7 cd7 ct7), sl7⟩) (c7 : PySem.W.codeIn K cd7 "show_spans" = true) (k7 : PySem.W.keepIn K (.ref f7) = true)
    {f8 : Addr} {od8 an8 : Option Addr} {sl8 : Array (Option Value)} {oc8 kV8 dc8 pm8 cd8 ct8 : Value}
    (a8 : PySem.W.nsIn K mainGlobals "end_shown" = some (some (.ref f8))) (l8 : K.lookup f8 = some ⟨oc8, od8, .func (PySem.W.fnOf "end_shown" "end_shown" (defArgs s_end_shown) (defBody s_end_shown) (defScope s_end_shown) .none kV8 dc8 pm8 an8 cd8 ct8), sl8⟩) (c8 : PySem.W.codeIn K cd8 "end_shown" = true) (k8 : PySem.W.keepIn K (.ref f8) = true)
    {f9 : Addr} {od9 an9 : Option Addr} {sl9 : Array (Option Value)} {oc9 kV9 dc9 pm9 cd9 ct9 : Value}
    (a9 : PySem.W.nsIn K mainGlobals "_law_well" = some (some (.ref f9))) (l9 : K.lookup f9 = some ⟨oc9, od9, .func (PySem.W.fnOf "_law_well" "_law_well" (defArgs s_law_well) (defBody s_law_well) (defScope s_law_well) .none kV9 dc9 pm9 an9 cd9 ct9), sl9⟩) (c9 : PySem.W.codeIn K cd9 "_law_well" = true) (k9 : PySem.W.keepIn K (.ref f9) = true)
    {f10 : Addr} {od10 an10 : Option Addr} {sl10 : Array (Option Value)} {oc10 kV10 dc10 pm10 cd10 ct10 : Value}
    (a10 : PySem.W.nsIn K mainGlobals "_law_draw" = some (some (.ref f10))) (l10 : K.lookup f10 = some ⟨oc10, od10, .func (PySem.W.fnOf "_law_draw" "_law_draw" (defArgs s_law_draw) (defBody s_law_draw) (defScope s_law_draw) .none kV10 dc10 pm10 an10 cd10 ct10), sl10⟩) (c10 : PySem.W.codeIn K cd10 "_law_draw" = true) (k10 : PySem.W.keepIn K (.ref f10) = true)
    {f11 : Addr} {od11 an11 : Option Addr} {sl11 : Array (Option Value)} {oc11 kV11 dc11 pm11 cd11 ct11 : Value}
    (a11 : PySem.W.nsIn K mainGlobals "_law_great" = some (some (.ref f11))) (l11 : K.lookup f11 = some ⟨oc11, od11, .func (PySem.W.fnOf "_law_great" "_law_great" (defArgs s_law_great) (defBody s_law_great) (defScope s_law_great) .none kV11 dc11 pm11 an11 cd11 ct11), sl11⟩) (c11 : PySem.W.codeIn K cd11 "_law_great" = true) (k11 : PySem.W.keepIn K (.ref f11) = true)
    {f12 : Addr} {od12 an12 : Option Addr} {sl12 : Array (Option Value)} {oc12 kV12 dc12 pm12 cd12 ct12 : Value}
    (a12 : PySem.W.nsIn K mainGlobals "_law_span" = some (some (.ref f12))) (l12 : K.lookup f12 = some ⟨oc12, od12, .func (PySem.W.fnOf "_law_span" "_law_span" (defArgs s_law_span) (defBody s_law_span) (defScope s_law_span) .none kV12 dc12 pm12 an12 cd12 ct12), sl12⟩) (c12 : PySem.W.codeIn K cd12 "_law_span" = true) (k12 : PySem.W.keepIn K (.ref f12) = true)
    {f13 : Addr} {od13 an13 : Option Addr} {sl13 : Array (Option Value)} {oc13 kV13 dc13 pm13 cd13 ct13 : Value}
    (a13 : PySem.W.nsIn K mainGlobals "_law_word" = some (some (.ref f13))) (l13 : K.lookup f13 = some ⟨oc13, od13, .func (PySem.W.fnOf "_law_word" "_law_word" (defArgs s_law_word) (defBody s_law_word) (defScope s_law_word) .none kV13 dc13 pm13 an13 cd13 ct13), sl13⟩) (c13 : PySem.W.codeIn K cd13 "_law_word" = true) (k13 : PySem.W.keepIn K (.ref f13) = true)
    {f14 : Addr} {od14 an14 : Option Addr} {sl14 : Array (Option Value)} {oc14 kV14 dc14 pm14 cd14 ct14 : Value}
    (a14 : PySem.W.nsIn K mainGlobals "_law_is_span" = some (some (.ref f14))) (l14 : K.lookup f14 = some ⟨oc14, od14, .func (PySem.W.fnOf "_law_is_span" "_law_is_span" (defArgs s_law_is_span) (defBody s_law_is_span) (defScope s_law_is_span) .none kV14 dc14 pm14 an14 cd14 ct14), sl14⟩) (c14 : PySem.W.codeIn K cd14 "_law_is_span" = true) (k14 : PySem.W.keepIn K (.ref f14) = true)
    {f15 : Addr} {od15 an15 : Option Addr} {sl15 : Array (Option Value)} {oc15 kV15 dc15 pm15 cd15 ct15 : Value}
    (a15 : PySem.W.nsIn K mainGlobals "law" = some (some (.ref f15))) (l15 : K.lookup f15 = some ⟨oc15, od15, .func (PySem.W.fnOf "law" "law" (defArgs s_law) (defBody s_law) (defScope s_law) .none kV15 dc15 pm15 an15 cd15 ct15), sl15⟩) (c15 : PySem.W.codeIn K cd15 "law" = true) (k15 : PySem.W.keepIn K (.ref f15) = true)
    {t_FIGURES : Tok} (x_FIGURES : PySem.W.nsIn K mainGlobals "FIGURES" = some (some (.str "0123456789" t_FIGURES)))
    {t_MOST_FIGURES : Tok} (x_MOST_FIGURES : PySem.W.nsIn K mainGlobals "MOST_FIGURES" = some (some (.int 60 t_MOST_FIGURES)))
    (z_all : PySem.W.nsIn K mainGlobals "all" = some none)
    (z_bool : PySem.W.nsIn K mainGlobals "bool" = some none)
    (z_enumerate : PySem.W.nsIn K mainGlobals "enumerate" = some none)
    (z_int : PySem.W.nsIn K mainGlobals "int" = some none)
    (z_isinstance : PySem.W.nsIn K mainGlobals "isinstance" = some none)
    (z_len : PySem.W.nsIn K mainGlobals "len" = some none)
    (z_list : PySem.W.nsIn K mainGlobals "list" = some none)
    (z_range : PySem.W.nsIn K mainGlobals "range" = some none)
    (z_str : PySem.W.nsIn K mainGlobals "str" = some none)
    (z_tuple : PySem.W.nsIn K mainGlobals "tuple" = some none)
    : ∃ fd : FuncData, (∀ (s : Shared) (v : Value), BindsTo s fd ⟨[v], []⟩ [("_law_script", v)]) ∧ ∀ base : Heap, K.In base → base.Ns mainGlobals mg → FnOk l.prog w K mg base CX0 6 fa fd ["_law_script"] (spLaw K) := by
  have e := hfa.symm.trans (PySem.W.mg_of X G a15)
  cases e
  have F0 := fun_mk (st := s_is_made_of) l0 c0 k0
  have F1 := fun_mk (st := s_is_figures) l1 c1 k1
  have F2 := fun_mk (st := s_read_spans) l2 c2 k2
  have F3 := fun_mk (st := s_span_told) l3 c3 k3
  have F4 := fun_mk (st := s_is_end) l4 c4 k4
  have F5 := fun_mk (st := s_end_told) l5 c5 k5
  have F6 := fun_mk (st := s_are_ends) l6 c6 k6
  have F7 := fun_mk (st := s_show_spans) l7 c7 k7
  have F8 := fun_mk (st := s_end_shown) l8 c8 k8
  have F9 := fun_mk (st := s_law_well) l9 c9 k9
  have F10 := fun_mk (st := s_law_draw) l10 c10 k10
  have F11 := fun_mk (st := s_law_great) l11 c11 k11
  have F12 := fun_mk (st := s_law_span) l12 c12 k12
  have F13 := fun_mk (st := s_law_word) l13 c13 k13
  have F14 := fun_mk (st := s_law_is_span) l14 c14 k14
  have F15 := fun_mk (st := s_law) l15 c15 k15
  let T : Txt K mg := {
    f_is_made_of := f0, fd_is_made_of := _, d_is_made_of := ⟨F0, F0.binds (ps := ["text", "signs", "least", "most"]) (fun _ _ _ _ _ _ us hl => match us, hl with | [_, _, _, _], _ => rfl), PySem.W.mg_of X G a0⟩,
    f_is_figures := f1, fd_is_figures := _, d_is_figures := ⟨F1, F1.binds (ps := ["text"]) (fun _ _ _ _ _ _ us hl => match us, hl with | [_], _ => rfl), PySem.W.mg_of X G a1⟩,
    f_read_spans := f2, fd_read_spans := _, d_read_spans := ⟨F2, F2.binds (ps := ["text"]) (fun _ _ _ _ _ _ us hl => match us, hl with | [_], _ => rfl), PySem.W.mg_of X G a2⟩,
    f_span_told := f3, fd_span_told := _, d_span_told := ⟨F3, F3.binds (ps := ["piece"]) (fun _ _ _ _ _ _ us hl => match us, hl with | [_], _ => rfl), PySem.W.mg_of X G a3⟩,
    f_is_end := f4, fd_is_end := _, d_is_end := ⟨F4, F4.binds (ps := ["text"]) (fun _ _ _ _ _ _ us hl => match us, hl with | [_], _ => rfl), PySem.W.mg_of X G a4⟩,
    f_end_told := f5, fd_end_told := _, d_end_told := ⟨F5, F5.binds (ps := ["text"]) (fun _ _ _ _ _ _ us hl => match us, hl with | [_], _ => rfl), PySem.W.mg_of X G a5⟩,
    f_are_ends := f6, fd_are_ends := _, d_are_ends := ⟨F6, F6.binds (ps := ["start", "stop"]) (fun _ _ _ _ _ _ us hl => match us, hl with | [_, _], _ => rfl), PySem.W.mg_of X G a6⟩,
    f_show_spans := f7, fd_show_spans := _, d_show_spans := ⟨F7, F7.binds (ps := ["spans"]) (fun _ _ _ _ _ _ us hl => match us, hl with | [_], _ => rfl), PySem.W.mg_of X G a7⟩,
    f_end_shown := f8, fd_end_shown := _, d_end_shown := ⟨F8, F8.binds (ps := ["end"]) (fun _ _ _ _ _ _ us hl => match us, hl with | [_], _ => rfl), PySem.W.mg_of X G a8⟩,
    f_law_well := f9, fd_law_well := _, d_law_well := ⟨F9, F9.binds (ps := ["_law_cell"]) (fun _ _ _ _ _ _ us hl => match us, hl with | [_], _ => rfl), PySem.W.mg_of X G a9⟩,
    f_law_draw := f10, fd_law_draw := _, d_law_draw := ⟨F10, F10.binds (ps := ["_law_well_here", "_law_many"]) (fun _ _ _ _ _ _ us hl => match us, hl with | [_, _], _ => rfl), PySem.W.mg_of X G a10⟩,
    f_law_great := f11, fd_law_great := _, d_law_great := ⟨F11, F11.binds (ps := ["_law_well_here"]) (fun _ _ _ _ _ _ us hl => match us, hl with | [_], _ => rfl), PySem.W.mg_of X G a11⟩,
    f_law_span := f12, fd_law_span := _, d_law_span := ⟨F12, F12.binds (ps := ["_law_well_here"]) (fun _ _ _ _ _ _ us hl => match us, hl with | [_], _ => rfl), PySem.W.mg_of X G a12⟩,
    f_law_word := f13, fd_law_word := _, d_law_word := ⟨F13, F13.binds (ps := ["_law_span_here"]) (fun _ _ _ _ _ _ us hl => match us, hl with | [_], _ => rfl), PySem.W.mg_of X G a13⟩,
    f_law_is_span := f14, fd_law_is_span := _, d_law_is_span := ⟨F14, F14.binds (ps := ["_law_one"]) (fun _ _ _ _ _ _ us hl => match us, hl with | [_], _ => rfl), PySem.W.mg_of X G a14⟩,
    f_law := fa, fd_law := _, d_law := ⟨F15, F15.binds (ps := ["_law_script"]) (fun _ _ _ _ _ _ us hl => match us, hl with | [_], _ => rfl), PySem.W.mg_of X G a15⟩,
    t_FIGURES := _, g_FIGURES := PySem.W.mg_of X G x_FIGURES,
    t_MOST_FIGURES := _, g_MOST_FIGURES := PySem.W.mg_of X G x_MOST_FIGURES,
    m_all := PySem.W.mg_none_of X G z_all,
    m_bool := PySem.W.mg_none_of X G z_bool,
    m_enumerate := PySem.W.mg_none_of X G z_enumerate,
    m_int := PySem.W.mg_none_of X G z_int,
    m_isinstance := PySem.W.mg_none_of X G z_isinstance,
    m_len := PySem.W.mg_none_of X G z_len,
    m_list := PySem.W.mg_none_of X G z_list,
    m_range := PySem.W.mg_none_of X G z_range,
    m_str := PySem.W.mg_none_of X G z_str,
    m_tuple := PySem.W.mg_none_of X G z_tuple
  }
  exact ⟨T.fd_law, fun s v => .of_eq rfl, fun base _ _ => ok_law T⟩
end My
open PySem PySem.W PyProof.Rows
set_option maxHeartbeats 0 in
theorem PySem.Challenge.cw_pagelodge_k03_spans_written_holds : PySem.Challenge.rw_pagelodge_k03_spans_written.Holds := by
  w_on; o_law; k_head; (case hw => w_witness2)
  k_fill
  refine L2.walk_of (l := PySem.Challenge.rw_pagelodge_k03_spans_written) (n := 63) (k := 6) (x := "_law_script") (CX := fun _ => L2.CX0) (sp := fun w => My.spLaw _) rfl (by decide) rfl ⟨rfl, by decide, by decide⟩ (fun w h Y => PySem.W.kIn_of Y) ?F (fun _ _ a ns hl _ hS => ⟨a, ns, rfl, hS, hl, fun _ => rfl⟩) (fun _ _ _ _ _ h => h)
  case F =>
    intro w mg fa h KX G hmg
    refine' My.all_mk KX G hmg ?a0 ?l0 ?c0 ?k0 ?a1 ?l1 ?c1 ?k1 ?a2 ?l2 ?c2 ?k2 ?a3 ?l3 ?c3 ?k3 ?a4 ?l4 ?c4 ?k4 ?a5 ?l5 ?c5 ?k5 ?a6 ?l6 ?c6 ?k6 ?a7 ?l7 ?c7 ?k7 ?a8 ?l8 ?c8 ?k8 ?a9 ?l9 ?c9 ?k9 ?a10 ?l10 ?c10 ?k10 ?a11 ?l11 ?c11 ?k11 ?a12 ?l12 ?c12 ?k12 ?a13 ?l13 ?c13 ?k13 ?a14 ?l14 ?c14 ?k14 ?a15 ?l15 ?c15 ?k15 ?x_FIGURES ?x_MOST_FIGURES ?z_all ?z_bool ?z_enumerate ?z_int ?z_isinstance ?z_len ?z_list ?z_range ?z_str ?z_tuple
    (case a0 => k_is)
    (case l0 => k_is)
    (case c0 => k_is)
    (case k0 => k_is)
    (case a1 => k_is)
    (case l1 => k_is)
    (case c1 => k_is)
    (case k1 => k_is)
    (case a2 => k_is)
    (case l2 => k_is)
    (case c2 => k_is)
    (case k2 => k_is)
    (case a3 => k_is)
    (case l3 => k_is)
    (case c3 => k_is)
    (case k3 => k_is)
    (case a4 => k_is)
    (case l4 => k_is)
    (case c4 => k_is)
    (case k4 => k_is)
    (case a5 => k_is)
    (case l5 => k_is)
    (case c5 => k_is)
    (case k5 => k_is)
    (case a6 => k_is)
    (case l6 => k_is)
    (case c6 => k_is)
    (case k6 => k_is)
    (case a7 => k_is)
    (case l7 => k_is)
    (case c7 => k_is)
    (case k7 => k_is)
    (case a8 => k_is)
    (case l8 => k_is)
    (case c8 => k_is)
    (case k8 => k_is)
    (case a9 => k_is)
    (case l9 => k_is)
    (case c9 => k_is)
    (case k9 => k_is)
    (case a10 => k_is)
    (case l10 => k_is)
    (case c10 => k_is)
    (case k10 => k_is)
    (case a11 => k_is)
    (case l11 => k_is)
    (case c11 => k_is)
    (case k11 => k_is)
    (case a12 => k_is)
    (case l12 => k_is)
    (case c12 => k_is)
    (case k12 => k_is)
    (case a13 => k_is)
    (case l13 => k_is)
    (case c13 => k_is)
    (case k13 => k_is)
    (case a14 => k_is)
    (case l14 => k_is)
    (case c14 => k_is)
    (case k14 => k_is)
    (case a15 => k_is)
    (case l15 => k_is)
    (case c15 => k_is)
    (case k15 => k_is)
    (case x_FIGURES => k_is)
    (case x_MOST_FIGURES => k_is)
    (case z_all => k_is)
    (case z_bool => k_is)
    (case z_enumerate => k_is)
    (case z_int => k_is)
    (case z_isinstance => k_is)
    (case z_len => k_is)
    (case z_list => k_is)
    (case z_range => k_is)
    (case z_str => k_is)
    (case z_tuple => k_is)
