import PyProof.Rows.All
import Wide.All
import OpenK.AllK
import Wide.FinOn
import HandS.ForMost
import HandS.IsInst
import HandS.Walk
import HandS.Style
import HandS.Evl
import KE.SortData
import PySem.Challenge.RW_pagelodge_k07_a_text_and_its_parts
set_option Elab.async false
set_option linter.all false
set_option maxRecDepth 100000
set_option maxHeartbeats 4000000
namespace My
open PySem PySem.Spec PyProof.Rows L2 TL
/-- xs == [], xs != []: items of any kind -/
def rEqNil (K : PySem.W.Frag) : R2 := fun x y H Q => ∃ p q xs, x = .ref p ∧ y = .ref q ∧ SqL K H p xs ∧ SqL K H q [] ∧ Q (.bl xs.isEmpty) H
section
variable {X : Cx}
theorem op_eqNil (hu : X.A.units + 64 < cLine) : OpR X (compareOp .Eq) (rEqNil X.K) := by
  intro pins s σ H x y v u Q I rx ry h
  obtain ⟨p, q, xs, rfl, rfl, h1, h2, k⟩ := h
  obtain ⟨its, rv, hl, _⟩ := I.list h1
  obtain ⟨its2, rv2, hl2, _⟩ := I.list h2
  cases (show v = Value.ref p from rx)
  cases (show u = Value.ref q from ry)
  cases rv2
  cases rv with
  | nil => exact SeqAt.eq_listAt (e := fun _ => true) hl.isList hl2.isList rfl (by omega) (fun j h1 _ => absurd h1 (by simp)) ⟨.bl true, H, I, rfl, k⟩
  | cons a b => exact SeqAt.eq_list_lengthsAt hl.isList hl2.isList (by simp) (by omega) ⟨.bl false, H, I, rfl, k⟩
end
/-! ### heaps that change at the well alone -/
def W3 (a b c : Int) : HO := .lst [.int a, .int b, .int c]
def IsW (H : Hp) (W : Addr) : Prop := ∃ a b c, H W = some (W3 a b c)
structure Wx (W : Addr) (H H' : Hp) : Prop where
  keep : ∀ b o, b ≠ W → H b = some o → H' b = some o
  well : IsW H' W
theorem Wx.refl {W : Addr} {H : Hp} (h : IsW H W) : Wx W H H := ⟨fun _ _ _ e => e, h⟩
theorem Wx.trans {W : Addr} {H H1 H2 : Hp} (a : Wx W H H1) (b : Wx W H1 H2) : Wx W H H2 := ⟨fun c o n e => b.keep c o n (a.keep c o n e), b.well⟩
theorem Wx.free {W : Addr} {H H' : Hp} (e : Wx W H H') {p : Addr} (h : H' p = none) : H p = none := by
  cases q : H p with
  | none => rfl
  | some o =>
    by_cases hp : p = W
    · obtain ⟨a, b, c, hw⟩ := e.well
      rw [hp, hw] at h
      cases h
    · rw [e.keep p o hp q] at h
      cases h
theorem Wx.new {W : Addr} {H H' : Hp} (e : Wx W H H') {p : Addr} {o : HO} (h : H' p = none) : Wx W H (upd H' p o) := by
  obtain ⟨k, a, b, c, hw⟩ := e
  refine ⟨fun d u n q => ?_, a, b, c, ?_⟩
  · rw [upd_ne (ne_of_none (k d u n q) h)]
    exact k d u n q
  · rw [upd_ne (ne_of_none hw h)]
    exact hw
theorem Wx.set {W : Addr} {H H' : Hp} (e : Wx W H H') (a b c : Int) : Wx W H (upd H' W (W3 a b c)) := by
  refine ⟨fun d u n q => ?_, a, b, c, upd_same⟩
  rw [upd_ne n]
  exact e.keep d u n q
theorem IsW.ne {H : Hp} {W p : Addr} (h : IsW H W) (hp : H p = none) : W ≠ p := by
  obtain ⟨a, b, c, hw⟩ := h
  exact ne_of_none hw hp
theorem Wx.same {W : Addr} {H H1 H2 : Hp} (a : Wx W H H1) (b : Same H1 H2) : Wx W H H2 := by
  obtain ⟨k, x, y, z, hw⟩ := a
  exact ⟨fun c o n e => b c o (k c o n e), x, y, z, b _ _ hw⟩
/-- a list (other than the well) that is made here may change -/
theorem Wx.mut {W : Addr} {H H' : Hp} (e : Wx W H H') {p : Addr} {o : HO} (h : H p = none) (n : W ≠ p) : Wx W H (upd H' p o) := by
  obtain ⟨k, a, b, c, hw⟩ := e
  refine ⟨fun d u m q => ?_, a, b, c, ?_⟩
  · rw [upd_ne (ne_of_none q h)]
    exact k d u m q
  · rw [upd_ne n]
    exact hw
def spWell : Sp := fun vs H Q _ => ∃ n : Int, vs = [.int n] ∧ ∀ p a b c, H p = none → Q (.ref p) (upd H p (W3 a b c))
def spDraw : Sp := fun vs H Q _ => ∃ (W : Addr) (m : Int), vs = [.ref W, .int m] ∧ 0 < m ∧ m < 1073741824 ∧ IsW H W ∧ ∀ r H', 0 ≤ r → r < m → Wx W H H' → Q (.int r) H'
theorem mod_lt {n m : Int} (h : 0 < m) : 0 ≤ n % m ∧ n % m < m := ⟨Int.emod_nonneg n (by omega), Int.emod_lt_of_pos n h⟩
theorem cmul_of {i j : Int} (h : 0 ≤ i ∧ i < 2147483647) : CMul i j := .inl (by omega)
/-! ### texts and lists -/
theorem atI_in {α : Type} {xs : List α} {r : Int} (h0 : 0 ≤ r) (h1 : r < xs.length) : ∃ c, c ∈ xs ∧ atI xs r = some c := by
  obtain ⟨n, rfl⟩ : ∃ n : Nat, r = n := ⟨r.toNat, by omega⟩
  have hn : n < xs.length := by omega
  exact ⟨xs[n], List.getElem_mem hn, atI_nat (List.getElem?_eq_getElem hn)⟩
theorem len_tl (z : Str) : z.cps.toList.length = z.length := Array.length_toList
theorem joinL_one : ∀ t : List Nat, joinL [] (t.map fun c => [c]) = t
  | [] => rfl
  | [c] => rfl
  | c :: d :: r => by
    show [c] ++ ([] ++ joinL [] ((d :: r).map fun c => [c])) = c :: d :: r
    rw [joinL_one (d :: r)]
    rfl
theorem join_signs (y : Str) (hy : y.cps.toList = []) (t : List Nat) : Txt.join y (t.map fun c => (⟨#[c]⟩ : Str)) = ⟨t.toArray⟩ := by
  have e : tl (Txt.join y (t.map fun c => (⟨#[c]⟩ : Str))) = t := by
    rw [join_eq, tl_join, List.map_map]
    show joinL (y.cps.toList) (t.map fun c => [c]) = t
    rw [hy, joinL_one]
  rw [← mk_tl (Txt.join y (t.map fun c => (⟨#[c]⟩ : Str))), e]
theorem joinL_len (S : List Nat) : ∀ ps : List (List Nat), (joinL S ps).length ≤ (ps.map List.length).sum + ps.length * S.length
  | [] => Nat.zero_le _
  | [p] => by
    show p.length ≤ p.length + 0 + 1 * S.length
    omega
  | p :: q :: r => by
    have ih := joinL_len S (q :: r)
    show (p ++ (S ++ joinL S (q :: r))).length ≤ p.length + ((q :: r).map List.length).sum + ((q :: r).length + 1) * S.length
    rw [List.length_append, List.length_append, Nat.add_mul]
    omega
theorem join_len (y : Str) (ps : List Str) : (Txt.join y ps).length ≤ (ps.map (·.length)).sum + ps.length * y.length := by
  have h := joinL_len (tl y) (ps.map tl)
  rw [← tl_join, ← join_eq, List.map_map, List.length_map] at h
  have e : (ps.map (List.length ∘ tl)) = ps.map (·.length) := List.map_congr_left fun z _ => len_tl z
  rw [e] at h
  have e2 : (tl (Txt.join y ps)).length = (Txt.join y ps).length := len_tl _
  have e3 : (tl y).length = y.length := len_tl _
  rw [e2, e3] at h
  exact h
theorem sum_ones (t : List Nat) : ((t.map fun c => (⟨#[c]⟩ : Str)).map (·.length)).sum = t.length := by
  induction t with
  | nil => rfl
  | cons c r ih =>
    show 1 + ((r.map fun c => (⟨#[c]⟩ : Str)).map (·.length)).sum = r.length + 1
    rw [ih]
    omega
theorem sum_le {b : Nat} : ∀ ps : List Str, (∀ z ∈ ps, z.length ≤ b) → (ps.map (·.length)).sum ≤ ps.length * b
  | [], _ => Nat.zero_le _
  | z :: r, h => by
    have ih := sum_le r fun y hy => h y (List.mem_cons_of_mem _ hy)
    have hz := h z (List.mem_cons_self ..)
    show z.length + (r.map (·.length)).sum ≤ (r.length + 1) * b
    rw [Nat.add_mul]
    omega
theorem len_app (a b : Str) : (a ++ b).length = a.length + b.length := Array.size_append
theorem cutS_len (z : Str) (lo hi : Option Int) : (cutS z lo hi).length ≤ z.length := by
  show ((z.cps.toList.drop _).take _).toArray.size ≤ _
  rw [List.size_toArray, List.length_take, List.length_drop, len_tl]
  omega
theorem szl {n : Nat} (h : n ≤ 100000) : n ≤ sizeLine := Nat.le_trans h (by decide)
theorem szlt {n : Nat} (h : n < 100000) : n < sizeLine := Nat.lt_of_lt_of_le h (by decide)
def spSigns : Sp := fun vs H Q _ => ∃ (W : Addr) (z : Str) (m : Int), vs = [.ref W, .str z, .int m] ∧ 0 < z.length ∧ z.length ≤ 1000 ∧ 0 ≤ m ∧ m ≤ 1000 ∧ IsW H W ∧
  ∀ (t : List Nat) H', t.length = m.toNat → (∀ c ∈ t, c ∈ z.cps.toList) → Wx W H H' → Q (.str ⟨t.toArray⟩) H'
theorem ints_at {ns : List Int} {r : Int} (h0 : 0 ≤ r) (h1 : r < ns.length) : ∃ n, n ∈ ns ∧ atI (ns.map V.int) r = some (.int n) := by
  obtain ⟨v, hv, ev⟩ := atI_in (xs := ns.map V.int) h0 (by rw [List.length_map]; exact h1)
  obtain ⟨n, hn, rfl⟩ := List.mem_map.mp hv
  exact ⟨n, hn, ev⟩
theorem strs_at {ns : List Str} {r : Int} (h0 : 0 ≤ r) (h1 : r < ns.length) : ∃ n, n ∈ ns ∧ atI (ns.map V.str) r = some (.str n) := by
  obtain ⟨v, hv, ev⟩ := atI_in (xs := ns.map V.str) h0 (by rw [List.length_map]; exact h1)
  obtain ⟨n, hn, rfl⟩ := List.mem_map.mp hv
  exact ⟨n, hn, ev⟩
theorem mk_len (t : List Nat) : (⟨t.toArray⟩ : Str).length = t.length := List.size_toArray
def spText (b : Nat) : Sp := fun vs H Q _ => ∃ (W : Addr), vs = [.ref W] ∧ IsW H W ∧ ∀ t H', t.length ≤ b → Wx W H H' → Q (.str t) H'
theorem same_upd {H : Hp} {p : Addr} {o : HO} (h : H p = none) : Same H (upd H p o) := fun b x e => by
  rw [upd_ne (ne_of_none e h)]
  exact e
theorem same_mut {H H' : Hp} {p : Addr} {o : HO} (e : Same H H') (h : H p = none) : Same H (upd H' p o) := fun a u ha => by
  rw [upd_ne (ne_of_none ha h)]
  exact e a u ha
theorem take_map {α β : Type} {xs : List α} {i : Nat} {c : α} (f : α → β) (h : xs[i]? = some c) : (xs.take (i + 1)).map f = (xs.take i).map f ++ [f c] := by
  rw [List.take_add_one, h, List.map_append]
  rfl
theorem at_l {z : Str} {i c : Nat} (h : z.cps[i]? = some c) : z.cps.toList[i]? = some c := by
  rw [Array.getElem?_toList]
  exact h
theorem filter_take {α β : Type} {xs : List α} {i : Nat} {c : α} (p : α → Bool) (f : α → β) (h : xs[i]? = some c) : ((xs.take (i + 1)).filter p).map f = ((xs.take i).filter p).map f ++ (if p c = true then [f c] else []) := by
  rw [List.take_add_one, h, List.filter_append, List.map_append]
  by_cases hp : p c = true
  · rw [if_pos hp]
    simp [hp]
  · rw [if_neg hp]
    simp [hp]
theorem all_filter {α : Type} (p : α → Bool) (xs : List α) : ((xs.filter fun c => !p c)).isEmpty = xs.all p := by
  induction xs with
  | nil => rfl
  | cons a r ih =>
    cases h : p a with
    | true => simp only [List.filter_cons, h, List.all_cons, Bool.not_true, Bool.true_and]; exact ih
    | false => simp [List.filter_cons, h, List.all_cons]
theorem isEmpty_map {α β : Type} (f : α → β) (xs : List α) : (xs.map f).isEmpty = xs.isEmpty := by
  cases xs <;> rfl
theorem str_at {ss : List Str} {i : Nat} {x : V} (h : (ss.map V.str)[i]? = some x) : ∃ y, x = .str y ∧ ss[i]? = some y ∧ y ∈ ss := by
  rw [List.getElem?_map] at h
  cases e : ss[i]? with
  | none =>
    rw [e] at h
    cases h
  | some y =>
    rw [e] at h
    cases h
    exact ⟨y, rfl, rfl, List.mem_of_getElem? e⟩
theorem cutV_map {α : Type} (f : α → V) (ns : List α) (lo hi : Option Int) : ∃ ms : List α, cutV (ns.map f) lo hi = ms.map f ∧ ms.length ≤ ns.length := by
  refine ⟨(ns.drop (HT.sIx ns.length 0 lo)).take (HT.sIx ns.length ns.length hi - HT.sIx ns.length 0 lo), ?_, ?_⟩
  · unfold cutV
    rw [List.length_map, List.map_take, List.map_drop]
  · rw [List.length_take, List.length_drop]
    omega
theorem int_at {ns : List Int} {i : Nat} {x : V} (h : (ns.map V.int)[i]? = some x) : ∃ n, x = .int n := by
  rw [List.getElem?_map] at h
  cases e : ns[i]? with
  | none =>
    rw [e] at h
    cases h
  | some y =>
    rw [e] at h
    cases h
    exact ⟨y, rfl⟩
theorem dp_bools {K : PySem.W.Frag} {H : Hp} : ∀ bs : List Bool, DpAll K H (bs.map V.bl) (bs.map PyData.bool)
  | [] => .nil
  | b :: r => .cons (.bl b) (dp_bools r)
theorem lay_bools : ∀ bs : List Bool, PyData.canLayAll0 (bs.map PyData.bool) = true
  | [] => rfl
  | _ :: r => by simp [PyData.canLayAll0, PyData.canLay0, lay_bools r]
theorem depth_bools : ∀ bs : List Bool, PyData.depthAll (bs.map PyData.bool) = 0
  | [] => rfl
  | _ :: r => by simp [PyData.depthAll, PyData.depth, depth_bools r]
theorem shaped_bools (bs : List Bool) : SeqAt.shaped (.list (bs.map PyData.bool)) = true := by
  simp [SeqAt.shaped, PyData.canLay0, PyData.depth, lay_bools, depth_bools]
theorem eqv_bools (bs : List Bool) : PyData.eqv (.list (bs.map PyData.bool)) (.list (bs.map PyData.bool)) = true := SeqAt.eqv_refl _ (by simp [PyData.canLay0, lay_bools])
def spLaw (K : PySem.W.Frag) : Sp := fun vs H Q _ => ∃ (a : Addr) (ns : List Int), vs = [.ref a] ∧ SqL K H a (ns.map V.int) ∧ ns.length ≤ 63 ∧ ∀ H', Q (.bl true) H'
/-! ### sorted(xs) of data that are alike, any length: the items by letters of a type B, their values, their data -/
section
variable {B : Type} {val : B → V} {enc : B → PyData}
theorem vals_each : ∀ {bs : List B} {us : List Value}, Vals (bs.map val) us → PySem.W.EachIs (fun u b => RelV (val b) u) us bs
  | [], _, r => by
    cases r
    exact .nil
  | b :: bs, _, r => by
    cases r with
    | cons h t => exact .cons h (vals_each t)
theorem each_vals : ∀ {bs : List B} {us : List Value}, PySem.W.EachIs (fun u b => RelV (val b) u) us bs → Vals (bs.map val) us
  | _, _, .nil => .nil
  | _, _, .cons h t => .cons h (each_vals t)
theorem each_reads {X : Cx} {pins : List (Addr × Obj)} {σ : L2.St} {H : Hp} {s : Shared} (I : Inv X pins σ H s) : ∀ {bs : List B} {us : List Value}, (∀ b ∈ bs, Dp X.K H (val b) (enc b)) → PySem.W.EachIs (fun u b => RelV (val b) u) us bs → PySem.W.EachIs (fun u b => ∃ as, Reads s.heap u (enc b) as) us bs
  | _, _, _, .nil => .nil
  | _, _, hd, .cons h t => .cons (Dp.reads I _ _ _ (hd _ (List.mem_cons_self ..)) h) (each_reads I (fun b hb => hd b (List.mem_cons_of_mem _ hb)) t)
def sortB (enc : B → PyData) (bs : List B) : List B := bs.mergeSort (PySem.W.dataLe false enc)
def rSortB (K : PySem.W.Frag) (val : B → V) (enc : B → PyData) : List V → Hp → VK → Prop := fun vs H Q => ∃ (a : Addr) (bs : List B), vs = [V.ref a] ∧ SqL K H a (bs.map val) ∧ (∀ b ∈ bs, Dp K H (val b) (enc b)) ∧ PySem.W.AllAlike (bs.map enc) ∧ PySem.W.Sortable (bs.map enc) ∧
  (∀ b ∈ bs, (enc b).depth ≤ 60) ∧ ∀ p, H p = none → Q (.ref p) (upd H p (.lst ((sortB enc bs).map val)))
theorem cr_sortB {X : Cx} (val : B → V) (enc : B → PyData) (hu : X.A.units + 64 < cLine) : CallR X (.builtin "sorted") (rSortB X.K val enc) := by
  intro pins s σ H vs us Q I r h
  obtain ⟨a, bs, rfl, hs, hd, ha, hk, hdp, q⟩ := h
  obtain ⟨its, rv, hl, hz⟩ := I.list hs
  rw [Vals.ref1 r]
  have e1 := vals_each rv
  rw [List.length_map] at hz
  refine PySem.W.sorted_data (enc := enc) hl.isList e1 (each_reads I hd e1) ha hk hz (fun b hb => by have := hdp b hb; omega) fun out ho eo => ?_
  obtain ⟨ep, he'⟩ := PyProof.Rows.sortedAll_at s.heap its out.toArray
  have hlen : ((sortB enc bs).map val).length ≤ sizeLine := by
    rw [List.length_map]
    unfold sortB
    rw [List.length_mergeSort]
    exact hz
  exact ⟨.ref _, upd H (s.heap.objs.size + 1) (.lst ((sortB enc bs).map val)), I.laid (t' := s.toks) (fun _ _ => PyProof.Rows.sortedAll_old) (Nat.le_succ _) ⟨hlen, out, ep, each_vals eo, he'⟩, rfl, q _ (I.hok.fresh (Nat.le_succ _))⟩
theorem sortB_perm (enc : B → PyData) (bs : List B) : (sortB enc bs).Perm bs := List.mergeSort_perm ..
theorem sortB_sorted (enc : B → PyData) (bs : List B) : (sortB enc bs).Pairwise fun a b => PySem.W.dataLe false enc a b = true := PySem.W.sort_pairwise (PySem.W.sortLe_total _ _ _) bs
end
theorem perm_sorted_eq {α : Type} {r : α → α → Prop} (anti : ∀ a b, r a b → r b a → a = b) : ∀ A B : List α, A.Pairwise r → B.Pairwise r → A.Perm B → A = B
  | [], B, _, _, h => (List.Perm.nil_eq h)
  | a :: A, [], _, _, h => absurd h.length_eq (by simp)
  | a :: A, b :: B, ha, hb, h => by
    have e : a = b := by
      rcases List.mem_cons.mp (h.mem_iff.mp (List.mem_cons_self ..)) with e | e
      · exact e
      · rcases List.mem_cons.mp (h.mem_iff.mpr (List.mem_cons_self ..)) with e' | e'
        · exact e'.symm
        · exact anti a b ((List.pairwise_cons.mp ha).1 b e') ((List.pairwise_cons.mp hb).1 a e)
    subst e
    rw [perm_sorted_eq anti A B (List.pairwise_cons.mp ha).2 (List.pairwise_cons.mp hb).2 (List.Perm.cons_inv h)]
/-! ### pairs of texts, in order -/
def ltS (a b : Str) : Prop := a.cps.toList < b.cps.toList
instance (a b : Str) : Decidable (ltS a b) := inferInstanceAs (Decidable (a.cps.toList < b.cps.toList))
theorem ltS_irr (a : Str) : ¬ ltS a a := List.lt_irrefl _
theorem ltS_trans {a b c : Str} (h : ltS a b) (h2 : ltS b c) : ltS a c := List.lt_trans h h2
theorem ltS_tri (a b : Str) : ltS a b ∨ a = b ∨ ltS b a := by
  by_cases h : ltS a b
  · exact .inl h
  · by_cases h2 : ltS b a
    · exact .inr (.inr h2)
    · exact .inr (.inl (PyProof.Rows.ext_toList (List.le_antisymm (List.not_lt.mp h2) (List.not_lt.mp h))))
def leSS (p q : Str × Str) : Prop := ltS p.1 q.1 ∨ (p.1 = q.1 ∧ ¬ ltS q.2 p.2)
theorem leSS_anti (p q : Str × Str) (h : leSS p q) (h2 : leSS q p) : p = q := by
  obtain ⟨a, b⟩ := p
  obtain ⟨c, d⟩ := q
  rcases h with h | ⟨e, h⟩
  · rcases h2 with h2 | ⟨e2, h2⟩
    · exact absurd (ltS_trans h h2) (ltS_irr _)
    · have e2' : c = a := e2
      subst e2'
      exact absurd h (ltS_irr _)
  · have e' : a = c := e
    subst e'
    rcases h2 with h2 | ⟨e2, h2⟩
    · exact absurd h2 (ltS_irr _)
    · rcases ltS_tri b d with x | x | x
      · exact absurd x h2
      · rw [x]
      · exact absurd x h
theorem dataLe_ss {B : Type} (x y : B → Str) (p q : B) (h : PySem.W.dataLe false (fun b => .tuple [.str (x b), .str (y b)]) p q = true) : leSS (x p, y p) (x q, y q) := by
  have e : PySem.W.dataLt (.tuple [.str (x q), .str (y q)]) (.tuple [.str (x p), .str (y p)]) = false := by
    have h' : (!PySem.W.dataLt (.tuple [.str (x q), .str (y q)]) (.tuple [.str (x p), .str (y p)])) = true := h
    simpa using h'
  rw [PySem.W.dataLt_pair (by simp [PySem.W.alike]) (by simp [PySem.W.alike]), PySem.W.dataLt_str, PySem.W.dataLt_str] at e
  simp only [PyData.eqv, beq_iff_eq] at e
  by_cases h1 : x q = x p
  · rw [if_pos h1] at e
    by_cases h2 : y q = y p
    · refine .inr ⟨h1.symm, fun z => ?_⟩
      have z' : ltS (y q) (y p) := z
      rw [h2] at z'
      exact ltS_irr _ z'
    · rw [if_neg h2] at e
      exact .inr ⟨h1.symm, of_decide_eq_false e⟩
  · rw [if_neg h1] at e
    rcases ltS_tri (x p) (x q) with z | z | z
    · exact .inl z
    · exact absurd z.symm h1
    · exact absurd z (of_decide_eq_false e)
end My
namespace My
open PySem PySem.Spec PyProof.Rows L2 TL
def Asc (z : Str) : Prop := ∀ c ∈ z.cps.toList, c < 128
instance (z : Str) : Decidable (Asc z) := inferInstanceAs (Decidable (∀ c ∈ z.cps.toList, c < 128))
theorem asc_mk {t : List Nat} (h : ∀ c ∈ t, c < 128) : Asc ⟨t.toArray⟩ := fun c hc => h c (by simpa using hc)
theorem asc_app {a b : Str} (ha : Asc a) (hb : Asc b) : Asc (a ++ b) := by
  intro c hc
  have e : (a ++ b).cps.toList = a.cps.toList ++ b.cps.toList := Array.toList_append
  rw [e] at hc
  rcases List.mem_append.mp hc with h | h
  · exact ha c h
  · exact hb c h
theorem asc_cut {z : Str} (h : Asc z) (lo hi : Option Int) : Asc (cutS z lo hi) := by
  refine asc_mk fun c hc => h c ?_
  exact List.mem_of_mem_drop (List.mem_of_mem_take hc)
theorem inV_strs (x : Str) (F : List Str) : inV (.str x) (F.map V.str) = decide (x ∈ F) := by
  unfold inV
  rw [List.any_map, Bool.eq_iff_iff, List.any_eq_true, decide_eq_true_iff]
  constructor
  · rintro ⟨y, hy, e⟩
    have e' : (y == x) = true := e
    rw [← eq_of_beq e']
    exact hy
  · intro h
    exact ⟨x, h, by show (x == x) = true; exact beq_self_eq_true x⟩
theorem flat_strs (F : List Str) : (F.map V.str).all flatV = true := by
  rw [List.all_map, List.all_eq_true]
  intro x _
  rfl
/-! ### texts as data -/
theorem dp_strs {K : PySem.W.Frag} {H : Hp} : ∀ F : List Str, DpAll K H (F.map V.str) (F.map PyData.str)
  | [] => .nil
  | b :: r => .cons (.str b) (dp_strs r)
theorem ok_asc {z : Str} (h : Asc z) : PyData.strOk z = true := by
  unfold PyData.strOk
  rw [Array.all_eq_true']
  intro c hc
  have : c < 128 := h c (by simpa using hc)
  exact decide_eq_true (by omega)
theorem lay_strs : ∀ F : List Str, (∀ z ∈ F, Asc z) → PyData.canLayAll0 (F.map PyData.str) = true
  | [], _ => rfl
  | z :: r, h => by simp [PyData.canLayAll0, PyData.canLay0, ok_asc (h z (List.mem_cons_self ..)), lay_strs r fun y hy => h y (List.mem_cons_of_mem _ hy)]
theorem depth_strs : ∀ F : List Str, PyData.depthAll (F.map PyData.str) = 0
  | [] => rfl
  | _ :: r => by simp [PyData.depthAll, PyData.depth, depth_strs r]
theorem shaped_strs (F : List Str) (h : ∀ z ∈ F, Asc z) : SeqAt.shaped (.list (F.map PyData.str)) = true := by
  simp [SeqAt.shaped, PyData.canLay0, PyData.depth, lay_strs F h, depth_strs]
end My
namespace My
open PySem PySem.Spec PyProof.Rows L2 TL
/-! ### a list or a tuple, whichever stands there -/
def IsS (H : Hp) (a : Addr) (xs : List V) : Prop := H a = some (.lst xs) ∨ H a = some (.tup xs)
theorem IsS.mono {H H' : Hp} {a : Addr} {xs : List V} (e : Same H H') (h : IsS H a xs) : IsS H' a xs := h.elim (fun h => .inl (e _ _ h)) fun h => .inr (e _ _ h)
theorem IsS.or {K : PySem.W.Frag} {H : Hp} {a : Addr} {xs : List V} (h : IsS H a xs) : SqL K H a xs ∨ SqT K H a xs := h.elim (fun h => .inl (SqL.of h)) fun h => .inr (SqT.of h)
theorem IsS.eq {H H' : Hp} {a : Addr} {xs : List V} (e : Same H H') (h : IsS H a xs) : H' a = H a := h.elim (fun h => (e _ _ h).trans h.symm) fun h => (e _ _ h).trans h.symm
def iSeq (K : PySem.W.Frag) (tl : TE) : TI := fun σ H R => tl σ H fun x H1 => ∃ a, x = .ref a ∧ (((∃ xs, SqL K H1 a xs) ∧ R (Itl K a) H1) ∨ ((∃ xs, SqT K H1 a xs) ∧ R (Itt K a) H1))
theorem pi_seq {X : Cx} {tg l : Expr} {tl : TE} (hl : PE X l tl) : PI X tg l (iSeq X.K tl) := by
  refine ⟨fun pins s σ H R I h => ?_⟩
  refine thn (hl.run pins s σ H _ I h) fun v s1 ⟨x, H1, I1, r1, q1⟩ => ?_
  obtain ⟨a, e, q1⟩ := q1
  subst e
  cases r1
  rcases q1 with ⟨⟨xs, hq⟩, q⟩ | ⟨⟨xs, hq⟩, q⟩
  · obtain ⟨its, rv, p, hz⟩ := I1.list hq
    refine wpAny_pyIter_list p.isList ?_
    refine ⟨s1.heap.objs.size, [s1.heap.objs.size], _, _, H1, rfl, I1.kept (t' := s1.toks) fun b o e => Heap.get?_push_of_some _ e, turn_list a _, ⟨_, Heap.get?_push_size _ rfl, rfl, rfl⟩, fun b hb => ?_, q⟩
    have e : b = s1.heap.objs.size := by simpa using hb
    subst e
    exact I1.fpOk (Nat.le_refl _) (I1.hok.fresh (Nat.le_refl _))
  · obtain ⟨its, rv, p, hz⟩ := I1.tuple hq
    refine wpAny_pyIter_tuple (show s1.heap.IsTuple a its.toArray from p) ?_
    refine ⟨s1.heap.objs.size, [s1.heap.objs.size], _, _, H1, rfl, I1.kept (t' := s1.toks) fun b o e => Heap.get?_push_of_some _ e, turn_tuple a _, ⟨_, Heap.get?_push_size _ rfl, rfl, rfl⟩, fun b hb => ?_, q⟩
    have e : b = s1.heap.objs.size := by simpa using hb
    subst e
    exact I1.fpOk (Nat.le_refl _) (I1.hok.fresh (Nat.le_refl _))
/-- a comprehension over either -/
theorem lc_seq {K : PySem.W.Frag} {a : Addr} {xs : List V} {g : TG} {tt : TT} {te : TE} {vs : List Nat} {σ : L2.St} {H1 : Hp} {Qd : Addr → Hp → Prop} (h : IsS H1 a xs) (Pv : Addr → Nat → Hp → Prop) (h0 : ∀ D, H1 D = none → Pv D 0 (upd H1 D (.lst [])))
    (hl : ∀ D i H, H1 D = none → i ≤ xs.length → Pv D i H → H a = H1 a)
    (hs : ∀ D i x H, H1 D = none → xs[i]? = some x → Pv D i H → g x (wipe σ vs) H fun σ2 H2 => wipe σ2 vs = wipe σ vs ∧ tt σ2 H2 fun b H3 =>
      if b = true then te σ2 H3 fun y H4 => ∃ acc, H4 D = some (.lst acc) ∧ acc.length < sizeLine ∧ Pv D (i + 1) (upd H4 D (.lst (acc ++ [y]))) else Pv D (i + 1) H3) (hd : ∀ D H, H1 D = none → Pv D xs.length H → Qd D H) :
    ((∃ xs, SqL K H1 a xs) ∧ ∀ D, H1 D = none → ∃ W : Nat → Nat → Hp → Prop, (∃ m, W 0 m (upd H1 D (.lst []))) ∧ ∀ i m H, W i m H →
      ((Itl K a).stop i H ∧ Qd D H) ∨ ((Itl K a).go i H ∧ ∃ Nx : Hp → Prop, (∀ H', Nx H' → ∃ m', m' < m ∧ W (i + 1) m' H') ∧ ∀ x H', (Itl K a).yld i H x H' → g x (wipe σ vs) H' fun σ2 H2 => wipe σ2 vs = wipe σ vs ∧ tt σ2 H2 fun b H3 =>
        if b = true then te σ2 H3 fun y H4 => ∃ acc, H4 D = some (.lst acc) ∧ acc.length < sizeLine ∧ Nx (upd H4 D (.lst (acc ++ [y]))) else Nx H3)) ∨
    ((∃ xs, SqT K H1 a xs) ∧ ∀ D, H1 D = none → ∃ W : Nat → Nat → Hp → Prop, (∃ m, W 0 m (upd H1 D (.lst []))) ∧ ∀ i m H, W i m H →
      ((Itt K a).stop i H ∧ Qd D H) ∨ ((Itt K a).go i H ∧ ∃ Nx : Hp → Prop, (∀ H', Nx H' → ∃ m', m' < m ∧ W (i + 1) m' H') ∧ ∀ x H', (Itt K a).yld i H x H' → g x (wipe σ vs) H' fun σ2 H2 => wipe σ2 vs = wipe σ vs ∧ tt σ2 H2 fun b H3 =>
        if b = true then te σ2 H3 fun y H4 => ∃ acc, H4 D = some (.lst acc) ∧ acc.length < sizeLine ∧ Nx (upd H4 D (.lst (acc ++ [y]))) else Nx H3)) := by
  rcases h with h | h
  · exact .inl ⟨⟨_, SqL.of h⟩, fun D hD => lc_list (xs := xs) (Pv D) (h0 D hD) (fun i H hi pv => SqL.of ((hl D i H hD hi pv).trans h)) (fun i x H hx pv => hs D i x H hD hx pv) fun H pv => hd D H hD pv⟩
  · exact .inr ⟨⟨_, SqT.of h⟩, fun D hD => lc_tup (xs := xs) (Pv D) (h0 D hD) (fun i H hi pv => SqT.of ((hl D i H hD hi pv).trans h)) (fun i x H hx pv => hs D i x H hD hx pv) fun H pv => hd D H hD pv⟩
theorem rix_of {K : PySem.W.Frag} {H : Hp} {a : Addr} {xs : List V} {i : Int} {v : V} {Q : VK} (h : IsS H a xs) (e : atI xs i = some v) (q : Q v H) : rIx K (.ref a) (.int i) H Q :=
  h.elim (fun h => .inl ⟨a, xs, i, v, rfl, rfl, SqL.of h, e, q⟩) fun h => .inr (.inl ⟨a, xs, i, v, rfl, rfl, SqT.of h, e, q⟩)
end My
namespace My
open PySem PySem.Spec PyProof.Rows L2 TL
def topS (i : Nat) : Stmt := PySem.Challenge.pw_pagelodge_k07_a_text_and_its_parts.main.body.getD i (.Pass ⟨0, 0, 0, 0⟩)
abbrev s_parts_of : Stmt := topS 1
theorem sc_parts_of : FnScope ["text"] ["text"] (defScope s_parts_of) := ⟨rfl, rfl, rfl, by decide +kernel, rfl, by decide +kernel, by decide +kernel⟩
abbrev s_weight : Stmt := topS 2
theorem sc_weight : FnScope ["parts", "start", "signs"] ["parts"] (defScope s_weight) := ⟨rfl, rfl, rfl, by decide +kernel, rfl, by decide +kernel, by decide +kernel⟩
abbrev s_told_by : Stmt := topS 3
theorem sc_told_by : FnScope ["parts", "start", "signs"] ["parts"] (defScope s_told_by) := ⟨rfl, rfl, rfl, by decide +kernel, rfl, by decide +kernel, by decide +kernel⟩
abbrev s_untold_by : Stmt := topS 4
theorem sc_untold_by : FnScope ["parts", "size", "found", "at", "start", "stop"] ["parts", "size"] (defScope s_untold_by) := ⟨rfl, rfl, rfl, by decide +kernel, rfl, by decide +kernel, by decide +kernel⟩
abbrev s_meetings : Stmt := topS 5
theorem sc_meetings : FnScope ["ones", "others", "found", "at", "beside", "start", "stop"] ["ones", "others"] (defScope s_meetings) := ⟨rfl, rfl, rfl, by decide +kernel, rfl, by decide +kernel, by decide +kernel⟩
abbrev s_lacking : Stmt := topS 6
theorem sc_lacking : FnScope ["wanted", "parts", "untold", "at", "start", "stop"] ["wanted", "parts"] (defScope s_lacking) := ⟨rfl, rfl, rfl, by decide +kernel, rfl, by decide +kernel, by decide +kernel⟩
abbrev s_cut : Stmt := topS 7
theorem sc_cut : FnScope ["parts", "wanted", "found", "at", "start", "stop", "first", "signs"] ["parts", "wanted"] (defScope s_cut) := ⟨rfl, rfl, rfl, by decide +kernel, rfl, by decide +kernel, by decide +kernel⟩
abbrev s_joined : Stmt := topS 8
theorem sc_joined : FnScope ["ones", "others", "rest", "found", "start", "signs"] ["ones", "others"] (defScope s_joined) := ⟨rfl, rfl, rfl, by decide +kernel, rfl, by decide +kernel, by decide +kernel⟩
abbrev s_law_well : Stmt := topS 10
theorem sc_law_well : FnScope ["_law_cell"] ["_law_cell"] (defScope s_law_well) := ⟨rfl, rfl, rfl, by decide +kernel, rfl, by decide +kernel, by decide +kernel⟩
abbrev s_law_draw : Stmt := topS 11
theorem sc_law_draw : FnScope ["_law_well_here", "_law_many", "_law_found", "_law_number"] ["_law_well_here", "_law_many"] (defScope s_law_draw) := ⟨rfl, rfl, rfl, by decide +kernel, rfl, by decide +kernel, by decide +kernel⟩
abbrev s_law_text : Stmt := topS 12
theorem sc_law_text : FnScope ["_law_well_here", "_law_many", "_law_some", "_law_k"] ["_law_well_here", "_law_many"] (defScope s_law_text) := ⟨rfl, rfl, rfl, by decide +kernel, rfl, by decide +kernel, by decide +kernel⟩
abbrev s_law_runs : Stmt := topS 13
theorem sc_law_runs : FnScope ["_law_well_here", "_law_size", "_law_found", "_law_at", "_law_most", "_law_wide"] ["_law_well_here", "_law_size"] (defScope s_law_runs) := ⟨rfl, rfl, rfl, by decide +kernel, rfl, by decide +kernel, by decide +kernel⟩
abbrev s_law_rest : Stmt := topS 14
theorem sc_law_rest : FnScope ["_law_runs_here", "_law_size", "_law_found", "_law_at", "_law_low", "_law_high"] ["_law_runs_here", "_law_size"] (defScope s_law_rest) := ⟨rfl, rfl, rfl, by decide +kernel, rfl, by decide +kernel, by decide +kernel⟩
abbrev s_law : Stmt := topS 15
theorem sc_law : FnScope ["_law_script", "_law_cell", "_law_well_here", "_law_size", "_law_runs_here", "_law_text_here", "_law_rest_here", "_law_everything", "_law_parts", "_law_some", "_law_others", "_law_heavy", "_law_low", "_law_high"] ["_law_script"] (defScope s_law) := ⟨rfl, rfl, rfl, by decide +kernel, rfl, by decide +kernel, by decide +kernel⟩
structure Def (K : PySem.W.Frag) (mg : Str → Option Value) (x : Str) (st : Stmt) (ps : List Str) (f : Addr) (fd : FuncData) : Prop where
  F : Fun K x x st f fd
  b : Binds K fd ps []
  g : mg x = some (.ref f)
structure Txt (K : PySem.W.Frag) (mg : Str → Option Value) where
  f_parts_of : Addr
  fd_parts_of : FuncData
  d_parts_of : Def K mg "parts_of" s_parts_of ["text"] f_parts_of fd_parts_of
  f_weight : Addr
  fd_weight : FuncData
  d_weight : Def K mg "weight" s_weight ["parts"] f_weight fd_weight
  f_told_by : Addr
  fd_told_by : FuncData
  d_told_by : Def K mg "told_by" s_told_by ["parts"] f_told_by fd_told_by
  f_untold_by : Addr
  fd_untold_by : FuncData
  d_untold_by : Def K mg "untold_by" s_untold_by ["parts", "size"] f_untold_by fd_untold_by
  f_meetings : Addr
  fd_meetings : FuncData
  d_meetings : Def K mg "meetings" s_meetings ["ones", "others"] f_meetings fd_meetings
  f_lacking : Addr
  fd_lacking : FuncData
  d_lacking : Def K mg "lacking" s_lacking ["wanted", "parts"] f_lacking fd_lacking
  f_cut : Addr
  fd_cut : FuncData
  d_cut : Def K mg "cut" s_cut ["parts", "wanted"] f_cut fd_cut
  f_joined : Addr
  fd_joined : FuncData
  d_joined : Def K mg "joined" s_joined ["ones", "others"] f_joined fd_joined
  f_law_well : Addr
  fd_law_well : FuncData
  d_law_well : Def K mg "_law_well" s_law_well ["_law_cell"] f_law_well fd_law_well
  f_law_draw : Addr
  fd_law_draw : FuncData
  d_law_draw : Def K mg "_law_draw" s_law_draw ["_law_well_here", "_law_many"] f_law_draw fd_law_draw
  f_law_text : Addr
  fd_law_text : FuncData
  d_law_text : Def K mg "_law_text" s_law_text ["_law_well_here", "_law_many"] f_law_text fd_law_text
  f_law_runs : Addr
  fd_law_runs : FuncData
  d_law_runs : Def K mg "_law_runs" s_law_runs ["_law_well_here", "_law_size"] f_law_runs fd_law_runs
  f_law_rest : Addr
  fd_law_rest : FuncData
  d_law_rest : Def K mg "_law_rest" s_law_rest ["_law_runs_here", "_law_size"] f_law_rest fd_law_rest
  f_law : Addr
  fd_law : FuncData
  d_law : Def K mg "law" s_law ["_law_script"] f_law fd_law
  m_int : mg "int" = none
  m_isinstance : mg "isinstance" = none
  m_len : mg "len" = none
  m_list : mg "list" = none
  m_max : mg "max" = none
  m_min : mg "min" = none
  m_range : mg "range" = none
  m_sorted : mg "sorted" = none
  m_sum : mg "sum" = none
  m_tuple : mg "tuple" = none
/-! ### spans -/
abbrev Spn := Option Int × Option Int
def oV : Option Int → V
  | none => .non
  | some n => .int n
/-- a span in the heap -/
def PS2 (H : Hp) (v : V) (sp : Spn) : Prop := ∃ t : Addr, v = .ref t ∧ H t = some (.tup [oV sp.1, oV sp.2])
theorem PS2.mono {H H' : Hp} {v : V} {sp : Spn} (e : Same H H') (h : PS2 H v sp) : PS2 H' v sp := by
  obtain ⟨t, rfl, h⟩ := h
  exact ⟨t, rfl, e _ _ h⟩
theorem paired_at {α β : Type} {R : α → β → Prop} : ∀ {a : List α} {b : List β}, Paired R a b → ∀ {i : Nat} {x : α}, a[i]? = some x → ∃ y, b[i]? = some y ∧ R x y
  | _, _, .nil, i, x, h => by simp at h
  | _, _, .cons (a := u) (b := v) r t, 0, x, h => by
    cases h
    exact ⟨v, rfl, r⟩
  | _, _, .cons r t, i + 1, x, h => paired_at t h
theorem ps2s_mono {H H' : Hp} {xs : List V} {rs : List Spn} (e : Same H H') (h : Paired (PS2 H) xs rs) : Paired (PS2 H') xs rs := Paired.mono (fun _ _ => PS2.mono e) h
theorem PS2.upd {H : Hp} {D : Addr} {u o : HO} {v : V} {sp : Spn} (hD : H D = some u) (hu : ∀ xs, u ≠ .tup xs) (h : PS2 H v sp) : PS2 (upd H D o) v sp := by
  obtain ⟨t, rfl, h⟩ := h
  refine ⟨t, rfl, ?_⟩
  rw [upd_ne]
  · exact h
  · intro z
    rw [z, hD] at h
    exact hu _ (Option.some.inj h)
theorem ps2s_upd {H : Hp} {D : Addr} {u o : HO} {xs : List V} {rs : List Spn} (hD : H D = some u) (hu : ∀ xs, u ≠ .tup xs) (h : Paired (PS2 H) xs rs) : Paired (PS2 (upd H D o)) xs rs := Paired.mono (fun _ _ => PS2.upd hD hu) h
theorem PS2.wx {W : Addr} {H H' : Hp} {v : V} {sp : Spn} (hI : IsW H W) (x : Wx W H H') (h : PS2 H v sp) : PS2 H' v sp := by
  obtain ⟨t, rfl, h⟩ := h
  refine ⟨t, rfl, x.keep t _ (fun z => ?_) h⟩
  obtain ⟨a, b, c, hw⟩ := hI
  rw [z, hw] at h
  cases h
theorem ps2s_wx {W : Addr} {H H' : Hp} {xs : List V} {rs : List Spn} (hI : IsW H W) (x : Wx W H H') (h : Paired (PS2 H) xs rs) : Paired (PS2 H') xs rs := Paired.mono (fun _ _ => PS2.wx hI x) h
theorem paired_app {α β : Type} {R : α → β → Prop} : ∀ {a : List α} {b : List β} {c : List α} {d : List β}, Paired R a b → Paired R c d → Paired R (a ++ c) (b ++ d)
  | _, _, _, _, .nil, h => h
  | _, _, _, _, .cons x t, h => .cons x (paired_app t h)
theorem paired_set {α β : Type} {R : α → β → Prop} {x : α} {y : β} (r : R x y) : ∀ {a : List α} {b : List β} (n : Nat), Paired R a b → Paired R (a.set n x) (b.set n y)
  | _, _, _, .nil => .nil
  | _, _, 0, .cons _ t => .cons r t
  | _, _, n + 1, .cons q t => .cons q (paired_set r n t)
/-! ### spans as data -/
def od : Option Int → PyData
  | none => .none
  | some n => .int n
def sd (sp : Spn) : PyData := .tuple [od sp.1, od sp.2]
theorem dp_od {K : PySem.W.Frag} {H : Hp} (x : Option Int) : Dp K H (oV x) (od x) := by
  cases x with
  | none => exact .non
  | some n => exact .int n
theorem dp_sps {K : PySem.W.Frag} {H : Hp} : ∀ {xs : List V} {rs : List Spn}, Paired (PS2 H) xs rs → DpAll K H xs (rs.map sd)
  | _, _, .nil => .nil
  | _, _, .cons h t => by
    obtain ⟨a, rfl, h⟩ := h
    exact .cons (.tup (SqT.of h) (.cons (dp_od _) (.cons (dp_od _) .nil))) (dp_sps t)
theorem lay_od (x : Option Int) : PyData.canLay0 (od x) = true := by cases x <;> simp [od, PyData.canLay0]
theorem depth_od (x : Option Int) : PyData.depth (od x) = 0 := by cases x <;> simp [od, PyData.depth]
theorem lay_sps : ∀ rs : List Spn, PyData.canLayAll0 (rs.map sd) = true
  | [] => rfl
  | r :: t => by simp [PyData.canLayAll0, PyData.canLay0, sd, lay_od, lay_sps t]
theorem depth_sps : ∀ rs : List Spn, PyData.depthAll (rs.map sd) ≤ 1
  | [] => Nat.zero_le _
  | r :: t => by
    have := depth_sps t
    simp only [List.map_cons, PyData.depthAll, sd, PyData.depth, depth_od]
    show max _ _ ≤ 1
    have e : max 0 (max 0 0) + 1 = 1 := rfl
    omega
theorem shaped_sps (rs : List Spn) : SeqAt.shaped (.list (rs.map sd)) = true := by
  have := depth_sps rs
  simp only [SeqAt.shaped, PyData.canLay0, PyData.depth, lay_sps rs, Bool.true_and]
  exact decide_eq_true (by omega)
theorem eqv_sps (rs : List Spn) : PyData.eqv (.list (rs.map sd)) (.list (rs.map sd)) = true := SeqAt.eqv_refl _ (by simp [PyData.canLay0, lay_sps rs])
theorem kit2 {K : PySem.W.Frag} {n m : String} {b : Bool} (h : kitB n m = some b) : PySem.W.kitOne K (.type n) (.type m) = some b := kit_ty h

/-! ### stretches, parts and meetings in the heap -/
def iv (p : Int × Int) : Spn := (some p.1, some p.2)
abbrev Prt := Int × Str
def PT2 (H : Hp) (v : V) (p : Prt) : Prop := ∃ t : Addr, v = .ref t ∧ H t = some (.tup [.int p.1, .str p.2])
def PM3 (H : Hp) (v : V) (p : Nat × Int × Int) : Prop := ∃ t : Addr, v = .ref t ∧ H t = some (.tup [.int p.1, .int p.2.1, .int p.2.2])
theorem PT2.mono {H H' : Hp} {v : V} {p : Prt} (e : Same H H') (h : PT2 H v p) : PT2 H' v p := by
  obtain ⟨t, rfl, h⟩ := h
  exact ⟨t, rfl, e _ _ h⟩
theorem PM3.mono {H H' : Hp} {v : V} {p : Nat × Int × Int} (e : Same H H') (h : PM3 H v p) : PM3 H' v p := by
  obtain ⟨t, rfl, h⟩ := h
  exact ⟨t, rfl, e _ _ h⟩
theorem pt2s_mono {H H' : Hp} {xs : List V} {ps : List Prt} (e : Same H H') (h : Paired (PT2 H) xs ps) : Paired (PT2 H') xs ps := Paired.mono (fun _ _ => PT2.mono e) h
theorem pm3s_mono {H H' : Hp} {xs : List V} {ps : List (Nat × Int × Int)} (e : Same H H') (h : Paired (PM3 H) xs ps) : Paired (PM3 H') xs ps := Paired.mono (fun _ _ => PM3.mono e) h
theorem tup_upd {H : Hp} {D t : Addr} {u o : HO} {ys : List V} (hD : H D = some u) (hu : ∀ xs, u ≠ .tup xs) (h : H t = some (.tup ys)) : (upd H D o) t = some (.tup ys) := by
  rw [upd_ne]
  · exact h
  · intro z
    rw [z, hD] at h
    exact hu _ (Option.some.inj h)
theorem pt2s_upd {H : Hp} {D : Addr} {u o : HO} {xs : List V} {ps : List Prt} (hD : H D = some u) (hu : ∀ xs, u ≠ .tup xs) (h : Paired (PT2 H) xs ps) : Paired (PT2 (upd H D o)) xs ps := Paired.mono (fun _ _ ⟨t, e, h⟩ => ⟨t, e, tup_upd hD hu h⟩) h
theorem pm3s_upd {H : Hp} {D : Addr} {u o : HO} {xs : List V} {ps : List (Nat × Int × Int)} (hD : H D = some u) (hu : ∀ xs, u ≠ .tup xs) (h : Paired (PM3 H) xs ps) : Paired (PM3 (upd H D o)) xs ps := Paired.mono (fun _ _ ⟨t, e, h⟩ => ⟨t, e, tup_upd hD hu h⟩) h
/-! ### what the defs reckon -/
def tb (p : Prt) : Int × Int := (p.1, p.1 + (p.2.length : Int))
def unt (a : Int) (size : Int) : List (Int × Int) → List (Int × Int)
  | [] => if a < size then [(a, size)] else []
  | u :: r => (if a < u.1 then [(a, u.1)] else []) ++ unt u.2 size r
def mx (i j : Int) : Int := if j > i then j else i
def mn (i j : Int) : Int := if j < i then j else i
def hit (k : Nat) (a b : Int × Int) : List (Nat × Int × Int) := if mx a.1 b.1 < mn a.2 b.2 then [(k, mx a.1 b.1, mn a.2 b.2)] else []
def meetF : Nat → List (Int × Int) → List (Int × Int) → Nat → List (Nat × Int × Int)
  | 0, _, _, _ => []
  | _ + 1, [], _, _ => []
  | _ + 1, _ :: _, [], _ => []
  | n + 1, a :: A, b :: B, k => hit k a b ++ (if a.2 ≤ b.2 then meetF n A (b :: B) (k + 1) else meetF n (a :: A) B k)
def meet (A B : List (Int × Int)) : List (Nat × Int × Int) := meetF (A.length + B.length) A B 0
theorem meetF_nil1 (n : Nat) (B : List (Int × Int)) (k : Nat) : meetF n [] B k = [] := by cases n <;> rfl
theorem meetF_nil2 (n : Nat) (A : List (Int × Int)) (k : Nat) : meetF n A [] k = [] := by
  cases n with
  | zero => rfl
  | succ n => cases A <;> rfl
theorem meetF_cons (n : Nat) (a b : Int × Int) (A B : List (Int × Int)) (k : Nat) : meetF (n + 1) (a :: A) (b :: B) k = hit k a b ++ (if a.2 ≤ b.2 then meetF n A (b :: B) (k + 1) else meetF n (a :: A) B k) := rfl
theorem meetF_len : ∀ (n : Nat) (A B : List (Int × Int)) (k : Nat), (meetF n A B k).length ≤ n
  | 0, _, _, _ => Nat.le_refl _
  | n + 1, [], _, _ => Nat.zero_le _
  | n + 1, _ :: _, [], _ => Nat.zero_le _
  | n + 1, a :: A, b :: B, k => by
    rw [meetF_cons, List.length_append]
    have h1 : (hit k a b).length ≤ 1 := by
      unfold hit
      split <;> simp
    have h2 := meetF_len n A (b :: B) (k + 1)
    have h3 := meetF_len n (a :: A) B k
    split <;> omega
/-! ### in order, with a place between each two -/
def can (l : List (Int × Int)) : Prop := (l.Pairwise fun u v => u.2 < v.1) ∧ ∀ u ∈ l, u.1 < u.2
def cov (l : List (Int × Int)) (x : Int) : Prop := ∃ u ∈ l, u.1 ≤ x ∧ x < u.2
theorem cov_nil {x : Int} : ¬ cov [] x := fun ⟨_, h, _⟩ => nomatch h
theorem cov_cons {p : Int × Int} {l : List (Int × Int)} {x : Int} : cov (p :: l) x ↔ (p.1 ≤ x ∧ x < p.2) ∨ cov l x := by
  constructor
  · rintro ⟨u, hu, h⟩
    rcases List.mem_cons.mp hu with rfl | hu
    · exact .inl h
    · exact .inr ⟨u, hu, h⟩
  · rintro (h | ⟨u, hu, h⟩)
    · exact ⟨p, List.mem_cons_self .., h⟩
    · exact ⟨u, List.mem_cons_of_mem _ hu, h⟩
theorem cov_app {l m : List (Int × Int)} {x : Int} : cov (l ++ m) x ↔ cov l x ∨ cov m x := by
  constructor
  · rintro ⟨u, hu, h⟩
    rcases List.mem_append.mp hu with hu | hu
    · exact .inl ⟨u, hu, h⟩
    · exact .inr ⟨u, hu, h⟩
  · rintro (⟨u, hu, h⟩ | ⟨u, hu, h⟩)
    · exact ⟨u, List.mem_append.mpr (.inl hu), h⟩
    · exact ⟨u, List.mem_append.mpr (.inr hu), h⟩
theorem can_cons {u : Int × Int} {l : List (Int × Int)} (h : can (u :: l)) : u.1 < u.2 ∧ can l ∧ ∀ v ∈ l, u.2 < v.1 :=
  ⟨h.2 u (List.mem_cons_self ..), ⟨(List.pairwise_cons.mp h.1).2, fun v hv => h.2 v (List.mem_cons_of_mem _ hv)⟩, (List.pairwise_cons.mp h.1).1⟩
theorem can_mk {u : Int × Int} {l : List (Int × Int)} (h1 : u.1 < u.2) (h2 : can l) (h3 : ∀ v ∈ l, u.2 < v.1) : can (u :: l) :=
  ⟨List.pairwise_cons.mpr ⟨h3, h2.1⟩, fun v hv => by
    rcases List.mem_cons.mp hv with rfl | hv
    · exact h1
    · exact h2.2 v hv⟩
/-- two such rows that tell the same places are one -/
theorem can_eq : ∀ (l m : List (Int × Int)), can l → can m → (∀ x, cov l x ↔ cov m x) → l = m
  | [], [], _, _, _ => rfl
  | [], v :: m, _, hm, h => by
    have hv := (can_cons hm).1
    exact absurd ((h v.1).mpr ⟨v, List.mem_cons_self .., Int.le_refl _, hv⟩) cov_nil
  | u :: l, [], hl, _, h => by
    have hu := (can_cons hl).1
    exact absurd ((h u.1).mp ⟨u, List.mem_cons_self .., Int.le_refl _, hu⟩) cov_nil
  | u :: l, v :: m, hl, hm, h => by
    obtain ⟨u1, u2, u3⟩ := can_cons hl
    obtain ⟨v1, v2, v3⟩ := can_cons hm
    have lo : ∀ (p : Int × Int) (r : List (Int × Int)) (y : Int), p.1 < p.2 → (∀ q ∈ r, p.2 < q.1) → cov (p :: r) y → p.1 ≤ y := fun p r y h1 h2 ⟨q, hq, h3⟩ => by
      rcases List.mem_cons.mp hq with rfl | hq
      · exact h3.1
      · have := h2 q hq
        omega
    have e1 : u.1 = v.1 := by
      have a1 := lo v m u.1 v1 v3 ((h u.1).mp ⟨u, List.mem_cons_self .., Int.le_refl _, u1⟩)
      have a2 := lo u l v.1 u1 u3 ((h v.1).mpr ⟨v, List.mem_cons_self .., Int.le_refl _, v1⟩)
      omega
    have gap : ∀ (p : Int × Int) (r : List (Int × Int)), (∀ q ∈ r, p.2 < q.1) → ¬ cov (p :: r) p.2 := fun p r h2 ⟨q, hq, h3⟩ => by
      rcases List.mem_cons.mp hq with rfl | hq
      · omega
      · have := h2 q hq
        omega
    have e2 : u.2 = v.2 := by
      have b1 := gap u l u3
      have b2 := gap v m v3
      by_cases c : u.2 < v.2
      · exact absurd ((h u.2).mpr ⟨v, List.mem_cons_self .., by omega, c⟩) b1
      · by_cases d : v.2 < u.2
        · exact absurd ((h v.2).mp ⟨u, List.mem_cons_self .., by omega, d⟩) b2
        · omega
    have e : u = v := Prod.ext e1 e2
    subst e
    rw [can_eq l m u2 v2 fun x => ?_]
    have hx := h x
    rw [cov_cons, cov_cons] at hx
    constructor
    · intro c
      rcases hx.mp (.inr c) with d | d
      · obtain ⟨q, hq, h3⟩ := c
        have := u3 q hq
        omega
      · exact d
    · intro c
      rcases hx.mpr (.inr c) with d | d
      · obtain ⟨q, hq, h3⟩ := c
        have := v3 q hq
        omega
      · exact d
theorem mx_le (a b x : Int) : mx a b ≤ x ↔ a ≤ x ∧ b ≤ x := by
  unfold mx
  split <;> omega
theorem lt_mn (a b x : Int) : x < mn a b ↔ x < a ∧ x < b := by
  unfold mn
  split <;> omega
/-- what meets: its places are those that both tell -/
theorem meetF_ok : ∀ (n : Nat) (A B : List (Int × Int)) (k : Nat), A.length + B.length ≤ n → can A → can B →
    ((meetF n A B k).Pairwise fun p q => p.2.2 < q.2.1) ∧ (∀ p ∈ meetF n A B k, p.2.1 < p.2.2 ∧ k ≤ p.1 ∧ (∃ u, A[p.1 - k]? = some u ∧ u.1 ≤ p.2.1 ∧ p.2.2 ≤ u.2) ∧ ∃ v ∈ B, v.1 ≤ p.2.1) ∧ ∀ x, cov ((meetF n A B k).map (·.2)) x ↔ cov A x ∧ cov B x
  | 0, A, B, k, h, _, _ => by
    have e1 : A = [] := List.eq_nil_of_length_eq_zero (by omega)
    subst e1
    exact ⟨List.Pairwise.nil, (fun _ h => nomatch h), fun x => ⟨fun c => absurd c cov_nil, fun c => absurd c.1 cov_nil⟩⟩
  | n + 1, [], B, k, _, _, _ => ⟨List.Pairwise.nil, (fun _ h => nomatch h), fun x => ⟨fun c => absurd c cov_nil, fun c => absurd c.1 cov_nil⟩⟩
  | n + 1, a :: A, [], k, _, _, _ => ⟨List.Pairwise.nil, (fun _ h => nomatch h), fun x => ⟨fun c => absurd c cov_nil, fun c => absurd c.2 cov_nil⟩⟩
  | n + 1, a :: A, b :: B, k, h, hA, hB => by
    obtain ⟨a1, a2, a3⟩ := can_cons hA
    obtain ⟨b1, b2, b3⟩ := can_cons hB
    rw [List.length_cons, List.length_cons] at h
    have hhit : ∀ p ∈ hit k a b, p.2.1 < p.2.2 ∧ p.1 = k ∧ a.1 ≤ p.2.1 ∧ p.2.2 ≤ a.2 ∧ b.1 ≤ p.2.1 ∧ p.2.2 ≤ b.2 := fun p hp => by
      unfold hit at hp
      split at hp
      · rename_i hc
        rw [List.mem_singleton.mp hp]
        have m1 := (mx_le a.1 b.1 (mx a.1 b.1)).mp (Int.le_refl _)
        have m2 : mn a.2 b.2 ≤ a.2 ∧ mn a.2 b.2 ≤ b.2 := by
          unfold mn
          split <;> omega
        exact ⟨hc, rfl, m1.1, m2.1, m1.2, m2.2⟩
      · cases hp
    have chit : ∀ x, cov ((hit k a b).map (·.2)) x ↔ (a.1 ≤ x ∧ x < a.2) ∧ (b.1 ≤ x ∧ x < b.2) := fun x => by
      have e := mx_le a.1 b.1 x
      have e' := lt_mn a.2 b.2 x
      unfold hit
      split
      · constructor
        · rintro ⟨u, hu, h1, h2⟩
          have hu' : u = (mx a.1 b.1, mn a.2 b.2) := List.mem_singleton.mp hu
          subst hu'
          have q1 := e.mp h1
          have q2 := e'.mp h2
          exact ⟨⟨q1.1, q2.1⟩, q1.2, q2.2⟩
        · rintro ⟨⟨c1, c2⟩, c3, c4⟩
          exact ⟨(mx a.1 b.1, mn a.2 b.2), List.mem_singleton.mpr rfl, e.mpr ⟨c1, c3⟩, e'.mpr ⟨c2, c4⟩⟩
      · rename_i hc
        constructor
        · exact fun c => absurd c cov_nil
        · rintro ⟨⟨c1, c2⟩, c3, c4⟩
          have q1 := e.mpr ⟨c1, c3⟩
          have q2 := e'.mpr ⟨c2, c4⟩
          omega
    have hpw : (hit k a b).Pairwise fun p q => p.2.2 < q.2.1 := by
      unfold hit
      split
      · exact List.pairwise_singleton _ _
      · exact List.Pairwise.nil
    rw [meetF_cons]
    by_cases c : a.2 ≤ b.2
    · rw [if_pos c]
      obtain ⟨r1, r2, r3⟩ := meetF_ok n A (b :: B) (k + 1) (by rw [List.length_cons]; omega) a2 hB
      refine ⟨List.pairwise_append.mpr ⟨hpw, r1, fun p hp q hq => ?_⟩, fun p hp => ?_, fun x => ?_⟩
      · obtain ⟨_, _, _, h4, _⟩ := hhit p hp
        obtain ⟨_, _, ⟨u, hu, hu1, _⟩, _⟩ := r2 q hq
        have := a3 u (List.mem_of_getElem? hu)
        omega
      · rcases List.mem_append.mp hp with hp | hp
        · obtain ⟨h1, h2, h3, h4, h5, h6⟩ := hhit p hp
          exact ⟨h1, by omega, ⟨a, by rw [h2, Nat.sub_self]; rfl, h3, h4⟩, b, List.mem_cons_self .., h5⟩
        · obtain ⟨h1, h2, ⟨u, hu, h3⟩, h4⟩ := r2 p hp
          refine ⟨h1, by omega, ⟨u, ?_, h3⟩, h4⟩
          rw [show p.1 - k = (p.1 - (k + 1)) + 1 by omega, List.getElem?_cons_succ]
          exact hu
      · rw [List.map_append, cov_app, chit, r3, cov_cons, cov_cons]
        constructor
        · rintro (⟨d1, d2⟩ | ⟨d1, d2⟩)
          · exact ⟨.inl d1, .inl d2⟩
          · exact ⟨.inr d1, d2⟩
        · rintro ⟨d1 | d1, d2⟩
          · rcases d2 with d2 | ⟨q, hq, d2⟩
            · exact .inl ⟨d1, d2⟩
            · have := b3 q hq
              omega
          · exact .inr ⟨d1, d2⟩
    · rw [if_neg c]
      obtain ⟨r1, r2, r3⟩ := meetF_ok n (a :: A) B k (by rw [List.length_cons]; omega) hA b2
      refine ⟨List.pairwise_append.mpr ⟨hpw, r1, fun p hp q hq => ?_⟩, fun p hp => ?_, fun x => ?_⟩
      · obtain ⟨_, _, _, _, _, h4⟩ := hhit p hp
        obtain ⟨_, _, _, v, hv, hv1⟩ := r2 q hq
        have := b3 v hv
        omega
      · rcases List.mem_append.mp hp with hp | hp
        · obtain ⟨h1, h2, h3, h4, h5, h6⟩ := hhit p hp
          exact ⟨h1, by omega, ⟨a, by rw [h2, Nat.sub_self]; rfl, h3, h4⟩, b, List.mem_cons_self .., h5⟩
        · obtain ⟨h1, h2, h3, v, hv, h4⟩ := r2 p hp
          exact ⟨h1, h2, h3, v, List.mem_cons_of_mem _ hv, h4⟩
      · rw [List.map_append, cov_app, chit, r3, cov_cons, cov_cons]
        constructor
        · rintro (⟨d1, d2⟩ | ⟨d1, d2⟩)
          · exact ⟨.inl d1, .inl d2⟩
          · exact ⟨d1, .inr d2⟩
        · rintro ⟨d1, d2 | d2⟩
          · rcases d1 with d1 | ⟨q, hq, d1⟩
            · exact .inl ⟨d1, d2⟩
            · have := a3 q hq
              omega
          · exact .inr ⟨d1, d2⟩

section
variable {P : Program} {w : World} {K : PySem.W.Frag} {mg : Str → Option Value} {base : Heap}
def okP (ps : List Prt) : Prop := ps.length ≤ 2000 ∧ ∀ p ∈ ps, p.2.length ≤ 20000
def spTold : Sp := fun vs H Q _ => ∃ (a : Addr) (xs : List V) (ps : List Prt), vs = [.ref a] ∧ IsS H a xs ∧ Paired (PT2 H) xs ps ∧ okP ps ∧ ∀ p ys H', H p = none → Same H H' → H' p = some (.lst ys) → Paired (PS2 H') ys ((ps.map tb).map iv) → Q (.ref p) H'
theorem ok_told_by (T : Txt K mg) : FnOk P w K mg base CX0 1 T.f_told_by T.fd_told_by ["parts"] spTold := by
  refine T.d_told_by.F.ok sc_told_by (fun vs H Q E h => ?_) (fun cdv A outer s H vs Q E hr h => ?_)
  · obtain ⟨a, xs, ps, rfl, _⟩ := h
    rfl
  · obtain ⟨a, xs, ps, rfl, ha, hx, ⟨l1, l2⟩, q⟩ := h
    refine ⟨_, (pss_one (ps_ret (pe_lc (own := [("start", 1), ("signs", 2)]) (g := gTup K 2 (gCons (gName 1) (gCons (gName 2) gNil))) (tt := tYes) (by rfl) sc_told_by.nd (pi_seq (pv 0)) (blkOk_by (own := [("start", 1), ("signs", 2)]) (N := ["parts", "start", "signs"]) (sc := defScope s_told_by) (by decide +kernel)) (fun _ _ _ _ _ => (pg_tup rfl (pgs_cons (pg_name (i := 1) sc_told_by.nd rfl (Or.inl rfl)) (pgs_cons (pg_name (i := 2) sc_told_by.nd rfl (Or.inl rfl)) pgs_nil)))) (fun _ _ _ _ _ => pts_nil) (fun _ _ _ _ _ => (pe_tup (pa_cons (pv 1) (pa_cons (pe_op op_add (pv 1) (pe_callB call_len_str (by rfl) T.m_len (by decide +kernel) (pa_cons (pv 2) pa_nil))) pa_nil))))))), ?_⟩
    have lx : xs.length = ps.length := Paired.length hx
    refine ⟨.ref a, rfl, a, rfl, lc_seq ha (fun D i H' => Same H H' ∧ ∃ ys, H' D = some (.lst ys) ∧ Paired (PS2 H') ys (((ps.take i).map tb).map iv)) (fun D hD => ⟨same_upd hD, [], upd_same, .nil⟩) (fun D i H' _ _ pv => ha.eq pv.1) ?_ ?_⟩
    · rintro D i x H1 hD hi ⟨sm, ys, eD, hy⟩
      obtain ⟨p, hp, t, rfl, ht⟩ := paired_at hx hi
      have hil : i < ps.length := (List.getElem?_eq_some_iff.mp hp).1
      have lz := l2 p (List.mem_of_getElem? hp)
      refine ⟨t, _, rfl, SqT.of (sm _ _ ht), rfl, _, _, rfl, _, _, rfl, rfl, rfl, _, rfl, _, rfl, _, rfl, _, rfl, szl (by omega), _, _, rfl, rfl, (by show 2 ≤ sizeLine; decide), fun q2 hq2 => ?_⟩
      have s2 := same_upd (o := .tup [.int p.1, .int (p.1 + (p.2.length : Int))]) hq2
      have eD2 := s2 _ _ eD
      have hyl := Paired.length hy
      rw [List.length_map, List.length_map, List.length_take] at hyl
      refine ⟨ys, eD2, szlt (by omega), same_mut (sm.trans s2) hD, ys ++ [.ref q2], upd_same, ?_⟩
      rw [take_map tb hp, List.map_append]
      exact ps2s_upd eD2 (fun _ z => by cases z) (paired_app (ps2s_mono s2 hy) (.cons ⟨q2, rfl, upd_same⟩ .nil))
    · rintro D H1 hD ⟨sm, ys, eD, hy⟩
      rw [lx, List.take_length] at hy
      exact q D ys H1 hD sm eD hy
def wgt (ps : List Prt) : Int := (ps.map fun p => (p.2.length : Int)).sum
def spWeight : Sp := fun vs H Q _ => ∃ (a : Addr) (xs : List V) (ps : List Prt), vs = [.ref a] ∧ IsS H a xs ∧ Paired (PT2 H) xs ps ∧ okP ps ∧ ∀ H', Same H H' → Q (.int (wgt ps)) H'
theorem ok_weight (T : Txt K mg) : FnOk P w K mg base CX0 1 T.f_weight T.fd_weight ["parts"] spWeight := by
  refine T.d_weight.F.ok sc_weight (fun vs H Q E h => ?_) (fun cdv A outer s H vs Q E hr h => ?_)
  · obtain ⟨a, xs, ps, rfl, _⟩ := h
    rfl
  · obtain ⟨a, xs, ps, rfl, ha, hx, ⟨l1, l2⟩, q⟩ := h
    refine ⟨_, (pss_one (ps_ret (pe_callB (cr_sum rfl) (by rfl) T.m_sum (by decide +kernel) (pa_cons (pe_lc (own := [("start", 1), ("signs", 2)]) (g := gTup K 2 (gCons (gName 1) (gCons (gName 2) gNil))) (tt := tYes) (by rfl) sc_weight.nd (pi_seq (pv 0)) (blkOk_by (own := [("start", 1), ("signs", 2)]) (N := ["parts", "start", "signs"]) (sc := defScope s_weight) (by decide +kernel)) (fun _ _ _ _ _ => (pg_tup rfl (pgs_cons (pg_name (i := 1) sc_weight.nd rfl (Or.inl rfl)) (pgs_cons (pg_name (i := 2) sc_weight.nd rfl (Or.inl rfl)) pgs_nil)))) (fun _ _ _ _ _ => pts_nil) (fun _ _ _ _ _ => (pe_callB call_len_str (by rfl) T.m_len (by decide +kernel) (pa_cons (pv 2) pa_nil)))) pa_nil)))), ?_⟩
    have lx : xs.length = ps.length := Paired.length hx
    refine ⟨.ref a, rfl, a, rfl, lc_seq ha (fun D i H' => Same H H' ∧ H' D = some (.lst (((ps.take i).map fun p => (p.2.length : Int)).map V.int))) (fun D hD => ⟨same_upd hD, upd_same⟩) (fun D i H' _ _ pv => ha.eq pv.1) ?_ ?_⟩
    · rintro D i x H1 hD hi ⟨sm, eD⟩
      obtain ⟨p, hp, t, rfl, ht⟩ := paired_at hx hi
      have hil : i < ps.length := (List.getElem?_eq_some_iff.mp hp).1
      have lz := l2 p (List.mem_of_getElem? hp)
      refine ⟨t, _, rfl, SqT.of (sm _ _ ht), rfl, _, _, rfl, _, _, rfl, rfl, rfl, _, rfl, _, rfl, szl (by omega), _, eD, ?_, same_mut sm hD, ?_⟩
      · rw [List.length_map, List.length_map, List.length_take]
        exact szlt (by omega)
      · rw [upd_same, take_map (fun p : Prt => (p.2.length : Int)) hp, List.map_append]
        rfl
    · rintro D H1 hD ⟨sm, eD⟩
      rw [lx, List.take_length] at eD
      exact ⟨D, _, rfl, SqL.of eD, q H1 sm⟩
def pOf (z : Str) : List Prt := if V.str z = V.str "" then [] else [(0, z)]
def spPartsOf : Sp := fun vs H Q _ => ∃ z : Str, vs = [.str z] ∧ ∀ p ys H', H p = none → Same H H' → H' p = some (.lst ys) → Paired (PT2 H') ys (pOf z) → Q (.ref p) H'
theorem ok_parts_of (T : Txt K mg) : FnOk P w K mg base CX0 1 T.f_parts_of T.fd_parts_of ["text"] spPartsOf := by
  refine T.d_parts_of.F.ok sc_parts_of (fun vs H Q E h => ?_) (fun cdv A outer s H vs Q E hr h => ?_)
  · obtain ⟨z, rfl, _⟩ := h
    rfl
  · obtain ⟨z, rfl, q⟩ := h
    refine ⟨_, (pss_cons (ps_if (pt_cmpR op_eq (pv 0) pe_str (nomark _))
      (pss_one (ps_ret (pe_lst pa_nil)))
      pss_nil)
      (pss_one (ps_ret (pe_lst (pa_cons (pe_tup (pa_cons pe_int (pa_cons (pv 0) pa_nil))) pa_nil))))), ?_⟩
    refine ⟨.str z, rfl, rfl, _, rfl, ite2 (fun e => ?_) (fun e => ?_)⟩
    · unfold pOf at q
      rw [if_pos (of_decide_eq_true e)] at q
      exact ⟨Nat.zero_le _, fun p hp => q p [] _ hp (same_upd hp) upd_same .nil⟩
    · unfold pOf at q
      rw [if_neg (fun x => e (decide_eq_true x))] at q
      refine ⟨.str z, rfl, (by show 2 ≤ sizeLine; decide), fun t ht => ⟨(by show 1 ≤ sizeLine; decide), fun p hp => ?_⟩⟩
      have s2 := same_upd (o := .lst [.ref t]) hp
      exact q p [.ref t] _ ((same_upd (o := .tup [.int 0, .str z]) ht).free hp) ((same_upd ht).trans s2) upd_same (.cons ⟨t, rfl, s2 _ _ upd_same⟩ .nil)
def spUnt : Sp := fun vs H Q _ => ∃ (a : Addr) (xs : List V) (ps : List Prt) (size : Int), vs = [.ref a, .int size] ∧ IsS H a xs ∧ Paired (PT2 H) xs ps ∧ okP ps ∧ ∀ p ys H', H p = none → Same H H' → H' p = some (.lst ys) → Paired (PS2 H') ys ((unt 0 size (ps.map tb)).map iv) → Q (.ref p) H'
theorem ok_untold_by (T : Txt K mg) : FnOk P w K mg base CX0 2 T.f_untold_by T.fd_untold_by ["parts", "size"] spUnt := by
  refine T.d_untold_by.F.ok sc_untold_by (fun vs H Q E h => ?_) (fun cdv A outer s H vs Q E hr h => ?_)
  · obtain ⟨a, xs, ps, size, rfl, _⟩ := h
    rfl
  · obtain ⟨a, xs, ps, size, rfl, ha, hx, hok, q⟩ := h
    refine ⟨_, (pss_cons (ps_set (i := 2) sc_untold_by.nd rfl (.inl rfl) (pe_lst pa_nil))
      (pss_cons (ps_set (i := 3) sc_untold_by.nd rfl (.inl rfl) pe_int)
      (pss_cons (ps_for PassesOwn.never rfl (pi_list (pe_call (ok_told_by T) (hr.mono (by decide)) (by rfl) T.d_told_by.g T.d_told_by.F.kp T.d_told_by.b .nil pass0 (pa_cons (pv 0) pa_nil))) (pg_tup rfl (pgs_cons (pg_name (i := 4) sc_untold_by.nd rfl (.inl rfl)) (pgs_cons (pg_name (i := 5) sc_untold_by.nd rfl (.inl rfl)) pgs_nil)))
      (Evl.pss_cut (ps_if (pt_cmpR op_lt (pv 3) (pv 4) (nomark _))
      (pss_one (ps_expr (pe_bm PySem.F.plainAttrs_list PySem.F.slot_list_append PySem.F.type_list_append mt_append (pv 2) (pa_cons (pe_tup (pa_cons (pv 3) (pa_cons (pv 4) pa_nil))) pa_nil))))
      pss_nil)
      (pss_one (ps_set (i := 3) sc_untold_by.nd rfl (.inl rfl) (pv 5)))))
      (pss_cons (ps_if (pt_cmpR op_lt (pv 3) (pv 1) (nomark _))
      (pss_one (ps_expr (pe_bm PySem.F.plainAttrs_list PySem.F.slot_list_append PySem.F.type_list_append mt_append (pv 2) (pa_cons (pe_tup (pa_cons (pv 3) (pa_cons (pv 1) pa_nil))) pa_nil))))
      pss_nil)
      (pss_one (ps_ret (pv 2))))))), ?_⟩
    refine ⟨Nat.zero_le _, fun L hL => ?_⟩
    have sL := same_upd (o := .lst []) hL
    refine ⟨.ref a, rfl, a, xs, ps, rfl, ha.mono sL, pt2s_mono sL hx, hok, fun c zs H1 nc s1 hc hz => ?_⟩
    have eL1 := s1 _ _ (show (upd H L (.lst [])) L = some (.lst []) from upd_same)
    have t1 := sL.trans s1
    have ncL : c ≠ L := fun z => by
      rw [z, upd_same] at nc
      cases nc
    have l1 := hok.1
    generalize hA : ps.map tb = A at *
    have lA : A.length ≤ 2000 := by
      rw [← hA, List.length_map]
      exact l1
    have lz : zs.length = A.length := (Paired.length hz).trans (List.length_map ..)
    refine ⟨c, rfl, ⟨_, SqL.of hc⟩, for_list (K := K) (a := c) (xs := zs) (fun i σ H' => Same H H' ∧ H' c = some (.lst zs) ∧ ∃ (ys : List V) (acc : List (Int × Int)) (at_ : Int) (y4 y5 : Option V), H' L = some (.lst ys) ∧ Paired (PS2 H') ys (acc.map iv) ∧ acc.length ≤ i ∧ acc ++ unt at_ size (A.drop i) = unt 0 size A ∧ Same H1 (upd H' L (.lst [])) ∧ σ = [some (.ref a), some (.int size), some (.ref L), some (.int at_), y4, y5])
      ⟨t1, hc, [], [], 0, none, none, eL1, .nil, Nat.le_refl _, rfl, ?_, rfl⟩ (fun i σ H' _ pv => SqL.of pv.2.1) ?_ ?_⟩
    · intro b o e
      by_cases hb : b = L
      · rw [hb] at e ⊢
        rw [eL1] at e
        rw [upd_same]
        exact e
      · rw [upd_ne hb]
        exact e
    · rintro i x σ H2 hi ⟨s2, ec, ys, acc, at_, y4, y5, eL, hy, la, eq, sk, rfl⟩
      obtain ⟨sp, hsp, t, rfl, ht1⟩ := paired_at hz hi
      rw [List.getElem?_map] at hsp
      cases hk : A[i]? with
      | none =>
        rw [hk] at hsp
        cases hsp
      | some u =>
        rw [hk] at hsp
        cases hsp
        have hil : i < A.length := (List.getElem?_eq_some_iff.mp hk).1
        have hdrop : A.drop i = u :: A.drop (i + 1) := by
          obtain ⟨hi', rfl⟩ := List.getElem?_eq_some_iff.mp hk
          exact List.drop_eq_getElem_cons hi'
        have ht : H2 t = some (.tup [.int u.1, .int u.2]) := by
          have := sk _ _ ht1
          rw [upd_ne] at this
          · exact this
          · intro z
            rw [z, eL1] at ht1
            cases ht1
        refine ⟨t, _, rfl, SqT.of ht, rfl, _, _, rfl, _, _, rfl, rfl, ?_⟩
        rw [hdrop] at eq
        have eq' : (acc ++ (if at_ < u.1 then [(at_, u.1)] else [])) ++ unt u.2 size (A.drop (i + 1)) = unt 0 size A := by
          rw [List.append_assoc]
          exact eq
        refine ⟨fun σ' H' => Same H H' ∧ H' c = some (.lst zs) ∧ (∃ (ys : List V), H' L = some (.lst ys) ∧ Paired (PS2 H') ys ((acc ++ (if at_ < u.1 then [(at_, u.1)] else [])).map iv)) ∧ Same H1 (upd H' L (.lst [])) ∧ σ' = [some (.ref a), some (.int size), some (.ref L), some (.int at_), some (.int u.1), some (.int u.2)], ?_, ?_⟩
        · refine ⟨_, rfl, _, rfl, _, _, rfl, rfl, _, rfl, ite2 (fun e => ?_) (fun e => ?_)⟩
          · rw [if_pos (of_decide_eq_true e)]
            refine ⟨.ref L, rfl, .inl ⟨rfl, _, SqL.of eL⟩, _, rfl, _, rfl, (by show 2 ≤ sizeLine; decide), fun p hp => ?_⟩
            have sp := same_upd (o := .tup [.int at_, .int u.1]) hp
            have eLp := sp _ _ eL
            refine ⟨L, _, _, rfl, rfl, eLp, by rw [Paired.length hy, List.length_map]; exact szlt (by omega), same_mut (s2.trans sp) hL, by rw [upd_ne ncL]; exact sp _ _ ec, ⟨ys ++ [.ref p], upd_same, ?_⟩, ?_, rfl⟩
            · rw [List.map_append]
              exact ps2s_upd eLp (fun _ z => by cases z) (paired_app (ps2s_mono sp hy) (.cons ⟨p, rfl, upd_same⟩ .nil))
            · intro b o e
              have q1 := sk _ _ e
              by_cases hb : b = L
              · rw [hb] at q1 ⊢
                rw [upd_same] at q1 ⊢
                exact q1
              · rw [upd_ne hb] at q1 ⊢
                rw [upd_ne hb]
                exact sp _ _ q1
          · rw [if_neg (fun z => e (decide_eq_true z)), List.append_nil]
            exact ⟨s2, ec, ⟨ys, eL, hy⟩, sk, rfl⟩
        · rintro σ' H3 ⟨s3, ec3, ⟨ys3, eL3, hy3⟩, sk3, rfl⟩
          refine ⟨_, rfl, s3, ec3, ys3, _, u.2, _, _, eL3, hy3, ?_, eq', sk3, rfl⟩
          rw [List.length_append]
          split <;> simp only [List.length_cons, List.length_nil] <;> omega
    · rintro σ H2 ⟨s2, ec, ys, acc, at_, y4, y5, eL, hy, la, eq, sk, rfl⟩
      rw [List.drop_of_length_le (by omega)] at eq
      have eq' : acc ++ (if at_ < size then [(at_, size)] else []) = unt 0 size A := eq
      refine ⟨_, rfl, _, rfl, _, _, rfl, rfl, _, rfl, ite2 (fun e => ?_) (fun e => ?_)⟩
      · rw [if_pos (of_decide_eq_true e)] at eq'
        refine ⟨.ref L, rfl, .inl ⟨rfl, _, SqL.of eL⟩, _, rfl, _, rfl, (by show 2 ≤ sizeLine; decide), fun p hp => ?_⟩
        have sp := same_upd (o := .tup [.int at_, .int size]) hp
        have eLp := sp _ _ eL
        refine ⟨L, _, _, rfl, rfl, eLp, by rw [Paired.length hy, List.length_map]; exact szlt (by omega), .ref L, rfl, q L (ys ++ [.ref p]) _ hL (same_mut (s2.trans sp) hL) upd_same ?_⟩
        rw [← eq', List.map_append]
        exact ps2s_upd eLp (fun _ z => by cases z) (paired_app (ps2s_mono sp hy) (.cons ⟨p, rfl, upd_same⟩ .nil))
      · rw [if_neg (fun z => e (decide_eq_true z)), List.append_nil] at eq'
        rw [← eq'] at q
        exact ⟨.ref L, rfl, q L ys H2 hL s2 eL hy⟩
def spMeet : Sp := fun vs H Q _ => ∃ (a b : Addr) (xs ys : List V) (A B : List (Int × Int)), vs = [.ref a, .ref b] ∧ IsS H a xs ∧ IsS H b ys ∧ Paired (PS2 H) xs (A.map iv) ∧ Paired (PS2 H) ys (B.map iv) ∧ A.length + B.length ≤ 10000 ∧
  ∀ p zs H', H p = none → Same H H' → H' p = some (.lst zs) → Paired (PM3 H') zs (meet A B) → Q (.ref p) H'
theorem ok_meetings (T : Txt K mg) : FnOk P w K mg base CX0 1 T.f_meetings T.fd_meetings ["ones", "others"] spMeet := by
  refine T.d_meetings.F.ok sc_meetings (fun vs H Q E h => ?_) (fun cdv A outer s H vs Q E hr h => ?_)
  · obtain ⟨a, b, xs, ys, A, B, rfl, _⟩ := h
    rfl
  · obtain ⟨a, b, xs, ys, A, B, rfl, ha, hb, hA, hB, hl, q⟩ := h
    refine ⟨_, (pss_cons (ps_set (i := 2) sc_meetings.nd rfl (.inl rfl) (pe_lst pa_nil))
      (pss_cons (ps_set (i := 3) sc_meetings.nd rfl (.inl rfl) pe_int)
      (pss_cons (ps_set (i := 4) sc_meetings.nd rfl (.inl rfl) pe_int)
      (pss_cons (ps_while PassesOwn.never (PW.pt (pw_and (pt_cmpR op_lt (pv 3) (pe_callB call_len_seq (by rfl) T.m_len (by decide +kernel) (pa_cons (pv 0) pa_nil)) (nomark _)) (pw_and1 (pt_cmpR op_lt (pv 4) (pe_callB call_len_seq (by rfl) T.m_len (by decide +kernel) (pa_cons (pv 1) pa_nil)) (nomark _)))))
      (pss_cons (ps_set (i := 5) sc_meetings.nd rfl (.inl rfl) (pe_callB (call_max2 rfl) (by rfl) T.m_max (by decide +kernel) (pa_cons (pe_ix ix_tup (pe_ix ix_seq (pv 0) (pv 3) (fun _ _ => rfl)) pe_int (fun _ _ => rfl)) (pa_cons (pe_ix ix_tup (pe_ix ix_seq (pv 1) (pv 4) (fun _ _ => rfl)) pe_int (fun _ _ => rfl)) pa_nil))))
      (pss_cons (ps_set (i := 6) sc_meetings.nd rfl (.inl rfl) (pe_callB (call_min2 rfl) (by rfl) T.m_min (by decide +kernel) (pa_cons (pe_ix ix_tup (pe_ix ix_seq (pv 0) (pv 3) (fun _ _ => rfl)) pe_int (fun _ _ => rfl)) (pa_cons (pe_ix ix_tup (pe_ix ix_seq (pv 1) (pv 4) (fun _ _ => rfl)) pe_int (fun _ _ => rfl)) pa_nil))))
      (Evl.pss_cut (ps_if (pt_cmpR op_lt (pv 5) (pv 6) (nomark _))
      (pss_one (ps_expr (pe_bm PySem.F.plainAttrs_list PySem.F.slot_list_append PySem.F.type_list_append mt_append (pv 2) (pa_cons (pe_tup (pa_cons (pv 3) (pa_cons (pv 5) (pa_cons (pv 6) pa_nil)))) pa_nil))))
      pss_nil)
      (pss_one (ps_if (pt_cmpR op_le (pe_ix ix_tup (pe_ix ix_seq (pv 0) (pv 3) (fun _ _ => rfl)) pe_int (fun _ _ => rfl)) (pe_ix ix_tup (pe_ix ix_seq (pv 1) (pv 4) (fun _ _ => rfl)) pe_int (fun _ _ => rfl)) (nomark _))
      (pss_one (ps_aug (i := 3) sc_meetings.nd rfl (.inl rfl) pe_int ip_add))
      (pss_one (ps_aug (i := 4) sc_meetings.nd rfl (.inl rfl) pe_int ip_add))))))))
      (pss_one (ps_ret (pv 2))))))), ?_⟩
    have lx : xs.length = A.length := (Paired.length hA).trans (List.length_map ..)
    have ly : ys.length = B.length := (Paired.length hB).trans (List.length_map ..)
    refine ⟨Nat.zero_le _, fun L hL => ?_⟩
    refine ⟨fun m σ H' => ∃ (i j : Nat) (zs : List V) (F : List (Nat × Int × Int)) (y5 y6 : Option V), m = (A.length - i) + (B.length - j) ∧ i ≤ A.length ∧ j ≤ B.length ∧ Same H H' ∧ H' L = some (.lst zs) ∧ Paired (PM3 H') zs F ∧ F ++ meetF m (A.drop i) (B.drop j) i = meet A B ∧ σ = [some (.ref a), some (.ref b), some (.ref L), some (.int (i : Int)), some (.int (j : Int)), y5, y6],
      ⟨_, 0, 0, [], [], none, none, rfl, Nat.zero_le _, Nat.zero_le _, same_upd hL, upd_same, .nil, rfl, rfl⟩, ?_⟩
    rintro m σ H1 ⟨i, j, zs, F, y5, y6, rfl, hi, hj, sm, eL, hF, eq, rfl⟩
    have lF : F.length ≤ 10000 := by
      have h1 := congrArg List.length eq
      rw [List.length_append] at h1
      have h2 := meetF_len (A.length + B.length) A B 0
      unfold meet at h1
      omega
    have out : ∀ zs F H1, Same H H1 → H1 L = some (.lst zs) → Paired (PM3 H1) zs F → F = meet A B → Q (.ref L) H1 := fun zs F H1 s e h1 h2 => q L zs H1 hL s e (h2 ▸ h1)
    refine ⟨_, rfl, .ref a, rfl, a, _, rfl, (ha.mono sm).or, _, _, rfl, rfl, _, rfl, ite2 (fun e => ?_) (fun e => ?_)⟩
    · have e1 : (i : Int) < (xs.length : Int) := of_decide_eq_true e
      refine ⟨_, rfl, .ref b, rfl, b, _, rfl, (hb.mono sm).or, _, _, rfl, rfl, _, rfl, ite2 (fun e2 => ?_) (fun e2 => ?_)⟩
      · have e3 : (j : Int) < (ys.length : Int) := of_decide_eq_true e2
        have hiA : i < A.length := by omega
        have hjB : j < B.length := by omega
        obtain ⟨u, hu⟩ : ∃ u, A[i]? = some u := ⟨A[i], List.getElem?_eq_getElem hiA⟩
        obtain ⟨v, hv⟩ : ∃ v, B[j]? = some v := ⟨B[j], List.getElem?_eq_getElem hjB⟩
        have hdA : A.drop i = u :: A.drop (i + 1) := by
          obtain ⟨hi', rfl⟩ := List.getElem?_eq_some_iff.mp hu
          exact List.drop_eq_getElem_cons hi'
        have hdB : B.drop j = v :: B.drop (j + 1) := by
          obtain ⟨hi', rfl⟩ := List.getElem?_eq_some_iff.mp hv
          exact List.drop_eq_getElem_cons hi'
        obtain ⟨xv, hxv⟩ : ∃ x, xs[i]? = some x := ⟨xs[i]'(by omega), List.getElem?_eq_getElem (by omega)⟩
        obtain ⟨yv, hyv⟩ : ∃ x, ys[j]? = some x := ⟨ys[j]'(by omega), List.getElem?_eq_getElem (by omega)⟩
        obtain ⟨su, hsu, t, rfl, ht0⟩ := paired_at hA hxv
        obtain ⟨sv, hsv, r, rfl, hr0⟩ := paired_at hB hyv
        rw [List.getElem?_map, hu] at hsu
        rw [List.getElem?_map, hv] at hsv
        cases hsu
        cases hsv
        have ax := atI_nat (xs := xs) hxv
        have ay := atI_nat (xs := ys) hyv
        have u0 : atI [V.int u.1, V.int u.2] 0 = some (.int u.1) := rfl
        have u1 : atI [V.int u.1, V.int u.2] 1 = some (.int u.2) := rfl
        have v0 : atI [V.int v.1, V.int v.2] 0 = some (.int v.1) := rfl
        have v1 : atI [V.int v.1, V.int v.2] 1 = some (.int v.2) := rfl
        have ht := sm _ _ ht0
        have hr' := sm _ _ hr0
        have hm : (A.length - i) + (B.length - j) = ((A.length - i) + (B.length - j) - 1) + 1 := by omega
        rw [hm, hdA, hdB, meetF_cons, ← List.append_assoc] at eq
        refine ⟨fun σ' H' => ∃ m', m' < (A.length - i) + (B.length - j) ∧ ∃ (i j : Nat) (zs : List V) (F : List (Nat × Int × Int)) (y5 y6 : Option V), m' = (A.length - i) + (B.length - j) ∧ i ≤ A.length ∧ j ≤ B.length ∧ Same H H' ∧ H' L = some (.lst zs) ∧ Paired (PM3 H') zs F ∧ F ++ meetF m' (A.drop i) (B.drop j) i = meet A B ∧ σ' = [some (.ref a), some (.ref b), some (.ref L), some (.int (i : Int)), some (.int (j : Int)), y5, y6], fun σ' H' h => h, ?_⟩
        refine ⟨.ref a, rfl, _, rfl, rix_of (ha.mono sm) ax ⟨t, _, 0, _, rfl, rfl, SqT.of ht, u0, .ref b, rfl, _, rfl, rix_of (hb.mono sm) ay ⟨r, _, 0, _, rfl, rfl, SqT.of hr', v0, u.1, v.1, rfl, ?_⟩⟩⟩
        refine ⟨.ref a, rfl, _, rfl, rix_of (ha.mono sm) ax ⟨t, _, 1, _, rfl, rfl, SqT.of ht, u1, .ref b, rfl, _, rfl, rix_of (hb.mono sm) ay ⟨r, _, 1, _, rfl, rfl, SqT.of hr', v1, u.2, v.2, rfl, ?_⟩⟩⟩
        refine ⟨fun σ' H' => (∃ (zs : List V), H' L = some (.lst zs) ∧ Paired (PM3 H') zs (F ++ hit i u v)) ∧ Same H H' ∧ σ' = [some (.ref a), some (.ref b), some (.ref L), some (.int (i : Int)), some (.int (j : Int)), some (.int (mx u.1 v.1)), some (.int (mn u.2 v.2))], ?_, ?_⟩
        · refine ⟨_, rfl, _, rfl, _, _, rfl, rfl, _, rfl, ite2 (fun e => ?_) (fun e => ?_)⟩
          · have ee : hit i u v = [(i, mx u.1 v.1, mn u.2 v.2)] := if_pos (of_decide_eq_true e)
            refine ⟨.ref L, rfl, .inl ⟨rfl, _, SqL.of eL⟩, _, rfl, _, rfl, _, rfl, (by show 3 ≤ sizeLine; decide), fun p hp => ?_⟩
            have sp := same_upd (o := .tup [.int (i : Int), .int (mx u.1 v.1), .int (mn u.2 v.2)]) hp
            have eLp := sp _ _ eL
            refine ⟨L, _, _, rfl, rfl, eLp, by rw [Paired.length hF]; exact szlt (by omega), ⟨zs ++ [.ref p], upd_same, ?_⟩, same_mut (sm.trans sp) hL, rfl⟩
            rw [ee]
            exact pm3s_upd eLp (fun _ z => by cases z) (paired_app (pm3s_mono sp hF) (.cons ⟨p, rfl, upd_same⟩ .nil))
          · have ee : hit i u v = [] := if_neg (fun z => e (decide_eq_true z))
            exact ⟨⟨zs, eL, by rw [ee, List.append_nil]; exact hF⟩, sm, rfl⟩
        · rintro σ' H2 ⟨⟨zs2, eL2, hF2⟩, s2, rfl⟩
          have ht2 := s2 _ _ ht0
          have hr2 := s2 _ _ hr0
          refine ⟨.ref a, rfl, _, rfl, rix_of (ha.mono s2) ax ⟨t, _, 1, _, rfl, rfl, SqT.of ht2, u1, .ref b, rfl, _, rfl, rix_of (hb.mono s2) ay ⟨r, _, 1, _, rfl, rfl, SqT.of hr2, v1, u.2, v.2, rfl, rfl, _, rfl, ite2 (fun e => ?_) (fun e => ?_)⟩⟩⟩
          · rw [if_pos (of_decide_eq_true e)] at eq
            refine ⟨_, rfl, _, 1, rfl, rfl, (A.length - i) + (B.length - j) - 1, by omega, i + 1, j, zs2, _, _, _, by omega, by omega, hj, s2, eL2, hF2, ?_, rfl⟩
            rw [hdB]
            exact eq
          · rw [if_neg (fun z => e (decide_eq_true z))] at eq
            refine ⟨_, rfl, _, 1, rfl, rfl, (A.length - i) + (B.length - j) - 1, by omega, i, j + 1, zs2, _, _, _, by omega, hi, by omega, s2, eL2, hF2, ?_, rfl⟩
            rw [hdA]
            exact eq
      · have e3 : ¬ (j : Int) < (ys.length : Int) := fun z => e2 (decide_eq_true z)
        rw [List.drop_of_length_le (l := B) (by omega), meetF_nil2, List.append_nil] at eq
        exact ⟨.ref L, rfl, out zs F H1 sm eL hF eq⟩
    · have e3 : ¬ (i : Int) < (xs.length : Int) := fun z => e (decide_eq_true z)
      rw [List.drop_of_length_le (l := A) (by omega), meetF_nil1, List.append_nil] at eq
      exact ⟨.ref L, rfl, out zs F H1 sm eL hF eq⟩

end
end My
namespace My
open PySem PySem.Spec PyProof.Rows L2 TL
/-! ### what parts don't tell -/
theorem unt_ok (size : Int) : ∀ (A : List (Int × Int)) (a : Int), can A → (∀ u ∈ A, a ≤ u.1) → can (unt a size A) ∧ (∀ v ∈ unt a size A, a ≤ v.1) ∧ ∀ x, x < size → (cov (unt a size A) x ↔ a ≤ x ∧ ¬ cov A x)
  | [], a, _, _ => by
    unfold unt
    split
    · refine ⟨can_mk (by assumption) ⟨List.Pairwise.nil, (fun _ h => nomatch h)⟩ (fun _ h => nomatch h), fun v hv => ?_, fun x hx => ?_⟩
      · rw [List.mem_singleton.mp hv]
        exact Int.le_refl _
      · rw [cov_cons]
        constructor
        · rintro (c | c)
          · exact ⟨c.1, cov_nil⟩
          · exact absurd c cov_nil
        · exact fun c => .inl ⟨c.1, hx⟩
    · refine ⟨⟨List.Pairwise.nil, (fun _ h => nomatch h)⟩, (fun _ h => nomatch h), fun x hx => ⟨fun c => absurd c cov_nil, fun c => ?_⟩⟩
      omega
  | u :: r, a, hA, ha => by
    obtain ⟨u1, u2, u3⟩ := can_cons hA
    have hu := ha u (List.mem_cons_self ..)
    obtain ⟨r1, r2, r3⟩ := unt_ok size r u.2 u2 fun v hv => by
      have := u3 v hv
      omega
    show can ((if a < u.1 then [(a, u.1)] else []) ++ unt u.2 size r) ∧ (∀ v ∈ (if a < u.1 then [(a, u.1)] else []) ++ unt u.2 size r, a ≤ v.1) ∧ ∀ x, x < size → (cov ((if a < u.1 then [(a, u.1)] else []) ++ unt u.2 size r) x ↔ a ≤ x ∧ ¬ cov (u :: r) x)
    have key : ∀ x, x < size → ((a ≤ x ∧ x < u.1) ∨ cov (unt u.2 size r) x ↔ a ≤ x ∧ ¬ cov (u :: r) x) := fun x hx => by
      rw [r3 x hx, cov_cons]
      constructor
      · rintro (c | c)
        · refine ⟨c.1, fun d => ?_⟩
          rcases d with d | ⟨v, hv, d⟩
          · omega
          · have := u3 v hv
            omega
        · refine ⟨by omega, fun d => ?_⟩
          rcases d with d | d
          · omega
          · exact c.2 d
      · rintro ⟨c, d⟩
        by_cases e : x < u.1
        · exact .inl ⟨c, e⟩
        · by_cases e2 : x < u.2
          · exact absurd (.inl ⟨by omega, e2⟩) d
          · exact .inr ⟨by omega, fun k => d (.inr k)⟩
    by_cases c : a < u.1
    · rw [if_pos c]
      refine ⟨can_mk c r1 (fun v hv => by have := r2 v hv; dsimp only; omega), fun v hv => ?_, fun x hx => ?_⟩
      · rcases List.mem_cons.mp hv with rfl | hv
        · exact Int.le_refl _
        · have := r2 v hv
          omega
      · rw [← key x hx]
        exact cov_cons
    · rw [if_neg c]
      refine ⟨r1, fun v hv => ?_, fun x hx => ?_⟩
      · have := r2 v hv
        omega
      · rw [← key x hx]
        constructor
        · exact fun k => .inr k
        · rintro (k | k)
          · omega
          · exact k
theorem unt_len (size : Int) : ∀ (A : List (Int × Int)) (a : Int), (unt a size A).length ≤ A.length + 1
  | [], a => by
    unfold unt
    split <;> simp
  | u :: r, a => by
    have := unt_len size r u.2
    show ((if a < u.1 then [(a, u.1)] else []) ++ unt u.2 size r).length ≤ _
    rw [List.length_append, List.length_cons]
    split <;> simp only [List.length_cons, List.length_nil] <;> omega
theorem meet_can {A B : List (Int × Int)} (hA : can A) (hB : can B) : can ((meet A B).map (·.2)) := by
  obtain ⟨r1, r2, _⟩ := meetF_ok (A.length + B.length) A B 0 (Nat.le_refl _) hA hB
  refine ⟨List.pairwise_map.mpr r1, fun u hu => ?_⟩
  obtain ⟨p, hp, rfl⟩ := List.mem_map.mp hu
  exact (r2 p hp).1
theorem meet_cov {A B : List (Int × Int)} (hA : can A) (hB : can B) (x : Int) : cov ((meet A B).map (·.2)) x ↔ cov A x ∧ cov B x := (meetF_ok (A.length + B.length) A B 0 (Nat.le_refl _) hA hB).2.2 x
theorem meet_at {A B : List (Int × Int)} (hA : can A) (hB : can B) {p : Nat × Int × Int} (hp : p ∈ meet A B) : p.2.1 < p.2.2 ∧ ∃ u, A[p.1]? = some u ∧ u.1 ≤ p.2.1 ∧ p.2.2 ≤ u.2 := by
  obtain ⟨h1, _, ⟨u, hu, h3⟩, _⟩ := (meetF_ok (A.length + B.length) A B 0 (Nat.le_refl _) hA hB).2.1 p hp
  exact ⟨h1, u, hu, h3⟩
theorem meet_len (A B : List (Int × Int)) : (meet A B).length ≤ A.length + B.length := meetF_len _ _ _ _
def lastOf (W : List (Int × Int)) : Int := ((W.getLast?).map (·.2)).getD 0
def lak (W A : List (Int × Int)) : List (Int × Int) := if W = [] then [] else (meet W (unt 0 (lastOf W) A)).map (·.2)
theorem le_last {W : List (Int × Int)} (h : can W) {x : Int} (c : cov W x) : x < lastOf W := by
  obtain ⟨u, hu, h1, h2⟩ := c
  obtain ⟨i, hi, rfl⟩ := List.getElem_of_mem hu
  have hl : W.getLast? = some (W[W.length - 1]'(by omega)) := by
    rw [List.getLast?_eq_getElem?, List.getElem?_eq_getElem (by omega)]
  unfold lastOf
  rw [hl]
  show x < (W[W.length - 1]'(by omega)).2
  by_cases e : i = W.length - 1
  · subst e
    exact h2
  · have p1 := (List.pairwise_iff_getElem.mp h.1) i (W.length - 1) hi (by omega) (by omega)
    have p2 := h.2 (W[W.length - 1]'(by omega)) (List.getElem_mem _)
    omega
theorem lak_ok {W A : List (Int × Int)} (hW : can W) (hA : can A) (w0 : ∀ u ∈ W, 0 ≤ u.1) (a0 : ∀ u ∈ A, 0 ≤ u.1) : can (lak W A) ∧ ∀ x, cov (lak W A) x ↔ cov W x ∧ ¬ cov A x := by
  unfold lak
  split
  · rename_i e
    subst e
    exact ⟨hW, fun x => ⟨fun c => absurd c cov_nil, fun c => absurd c.1 cov_nil⟩⟩
  · obtain ⟨r1, r2, r3⟩ := unt_ok (lastOf W) A 0 hA a0
    refine ⟨meet_can hW r1, fun x => ?_⟩
    rw [meet_cov hW r1]
    constructor
    · rintro ⟨c1, c2⟩
      exact ⟨c1, ((r3 x (le_last hW c1)).mp c2).2⟩
    · rintro ⟨c1, c2⟩
      obtain ⟨u, hu, h1, h2⟩ := id c1
      have := w0 u hu
      exact ⟨c1, (r3 x (le_last hW c1)).mpr ⟨by omega, c2⟩⟩
theorem lak_len (W A : List (Int × Int)) : (lak W A).length ≤ W.length + A.length + 1 := by
  unfold lak
  split
  · exact Nat.zero_le _
  · rw [List.length_map]
    have h1 := meet_len W (unt 0 (lastOf W) A)
    have h2 := unt_len (lastOf W) A 0
    omega
/-! ### parts by the sign of each place -/
def txtF (f : Int → Nat) (a b : Int) : Str := ⟨((List.range (b - a).toNat).map fun i => f (a + (i : Nat))).toArray⟩
def partsF (f : Int → Nat) (S : List (Int × Int)) : List Prt := S.map fun u => (u.1, txtF f u.1 u.2)
theorem txtF_len (f : Int → Nat) (a b : Int) : (txtF f a b).length = (b - a).toNat := by
  unfold txtF
  rw [mk_len, List.length_map, List.length_range]
theorem tb_partsF {f : Int → Nat} {S : List (Int × Int)} (h : can S) : (partsF f S).map tb = S := by
  unfold partsF
  rw [List.map_map]
  have e : ∀ u ∈ S, (tb ∘ fun u : Int × Int => (u.1, txtF f u.1 u.2)) u = u := fun u hu => by
    show (u.1, u.1 + ((txtF f u.1 u.2).length : Int)) = u
    rw [txtF_len]
    have := h.2 u hu
    exact Prod.ext rfl (by dsimp only; omega)
  rw [List.map_congr_left e, List.map_id']
theorem range_cut (g : Nat → Nat) (n k m : Nat) (h : k + m ≤ n) : (((List.range n).map g).drop k).take m = (List.range m).map fun i => g (k + i) := by
  apply List.ext_getElem
  · rw [List.length_take, List.length_drop, List.length_map, List.length_map, List.length_range, List.length_range]
    omega
  · intro i h1 h2
    rw [List.getElem_take, List.getElem_drop, List.getElem_map, List.getElem_map, List.getElem_range, List.getElem_range]
theorem txtF_cut {f : Int → Nat} {a b s t : Int} (h1 : a ≤ s) (h2 : s ≤ t) (h3 : t ≤ b) : cutS (txtF f a b) (some (s - a)) (some (t - a)) = txtF f s t := by
  obtain ⟨k, hk⟩ : ∃ k : Nat, s - a = k := ⟨(s - a).toNat, by omega⟩
  obtain ⟨m, hm⟩ : ∃ m : Nat, t - a = m := ⟨(t - a).toNat, by omega⟩
  unfold cutS
  rw [hk, hm, HT.sIx_nat, HT.sIx_nat, txtF_len]
  have e1 : min k (b - a).toNat = k := by omega
  have e2 : min m (b - a).toNat = m := by omega
  rw [e1, e2]
  unfold txtF
  rw [show (((List.range (b - a).toNat).map fun i => f (a + (i : Nat))).toArray).toList = (List.range (b - a).toNat).map fun i => f (a + (i : Nat)) from rfl, range_cut _ _ _ _ (by omega), show (t - s).toNat = m - k by omega]
  have e3 : (fun i : Nat => f (a + ((k + i : Nat) : Int))) = fun i : Nat => f (s + (i : Nat)) := by
    funext i
    congr 1
    omega
  rw [e3]
theorem txtF_app {f : Int → Nat} {a b c : Int} (h1 : a ≤ b) (h2 : b ≤ c) : txtF f a b ++ txtF f b c = txtF f a c := by
  refine PyProof.Rows.ext_toList ?_
  have e : (txtF f a b ++ txtF f b c).cps.toList = (txtF f a b).cps.toList ++ (txtF f b c).cps.toList := Array.toList_append
  rw [e]
  unfold txtF
  show ((List.range (b - a).toNat).map fun i => f (a + (i : Nat))) ++ ((List.range (c - b).toNat).map fun i => f (b + (i : Nat))) = (List.range (c - a).toNat).map fun i => f (a + (i : Nat))
  rw [show (c - a).toNat = (b - a).toNat + (c - b).toNat by omega, List.range_add, List.map_append, List.map_map]
  congr 1
  refine List.map_congr_left fun i _ => ?_
  show f (b + (i : Nat)) = f (a + (((b - a).toNat + i : Nat) : Int))
  congr 1
  omega
theorem txtF_congr {f g : Int → Nat} {a b : Int} (h : ∀ x, a ≤ x → x < b → f x = g x) : txtF f a b = txtF g a b := by
  unfold txtF
  congr 2
  refine List.map_congr_left fun i hi => ?_
  have := List.mem_range.mp hi
  exact h _ (by omega) (by omega)
theorem partsF_congr {f g : Int → Nat} {S : List (Int × Int)} (h : ∀ x, cov S x → f x = g x) : partsF f S = partsF g S := by
  unfold partsF
  refine List.map_congr_left fun u hu => ?_
  rw [txtF_congr fun x h1 h2 => h x ⟨u, hu, h1, h2⟩]
/-! ### put together -/
def stepJ : List (Int × Int) → Int × Int → List (Int × Int)
  | [], p => [p]
  | q :: r, p => if q.2 = p.1 then (q.1, p.2) :: r else p :: q :: r
theorem stepJ_cons (q p : Int × Int) (r : List (Int × Int)) : stepJ (q :: r) p = if q.2 = p.1 then (q.1, p.2) :: r else p :: q :: r := rfl
theorem foldJ_ok : ∀ (S acc : List (Int × Int)), (S.Pairwise fun u v => u.2 ≤ v.1) → (∀ u ∈ S, u.1 < u.2) → (acc.Pairwise fun q u => u.2 < q.1) → (∀ u ∈ acc, u.1 < u.2) → (∀ u ∈ acc, ∀ p ∈ S, u.2 ≤ p.1) →
    ((S.foldl stepJ acc).Pairwise fun q u => u.2 < q.1) ∧ (∀ u ∈ S.foldl stepJ acc, u.1 < u.2) ∧ ∀ x, cov (S.foldl stepJ acc) x ↔ cov acc x ∨ cov S x
  | [], acc, _, _, h3, h4, _ => ⟨h3, h4, fun x => ⟨.inl, fun c => c.elim id fun c => absurd c cov_nil⟩⟩
  | p :: S, acc, h1, h2, h3, h4, h5 => by
    have hp := h2 p (List.mem_cons_self ..)
    have hS := List.pairwise_cons.mp h1
    have st : ((stepJ acc p).Pairwise fun q u => u.2 < q.1) ∧ (∀ u ∈ stepJ acc p, u.1 < u.2) ∧ (∀ u ∈ stepJ acc p, u.2 ≤ p.2) ∧ ∀ x, cov (stepJ acc p) x ↔ cov acc x ∨ (p.1 ≤ x ∧ x < p.2) := by
      cases acc with
      | nil =>
        refine ⟨List.pairwise_singleton _ _, fun u hu => ?_, fun u hu => ?_, fun x => ?_⟩
        · rw [List.mem_singleton.mp hu]
          exact hp
        · rw [List.mem_singleton.mp hu]
          exact Int.le_refl _
        · show cov [p] x ↔ _
          rw [cov_cons]
          exact Or.comm
      | cons q r =>
        have hq := h4 q (List.mem_cons_self ..)
        have hqp := h5 q (List.mem_cons_self ..) p (List.mem_cons_self ..)
        have hr := List.pairwise_cons.mp h3
        rw [stepJ_cons]
        by_cases c : q.2 = p.1
        · rw [if_pos c]
          refine ⟨List.pairwise_cons.mpr ⟨fun u hu => hr.1 u hu, hr.2⟩, fun u hu => ?_, fun u hu => ?_, fun x => ?_⟩
          · rcases List.mem_cons.mp hu with rfl | hu
            · dsimp only
              omega
            · exact h4 u (List.mem_cons_of_mem _ hu)
          · rcases List.mem_cons.mp hu with rfl | hu
            · exact Int.le_refl _
            · have := h5 u (List.mem_cons_of_mem _ hu) p (List.mem_cons_self ..)
              omega
          · rw [cov_cons, cov_cons]
            dsimp only
            constructor
            · rintro (⟨a, b⟩ | k)
              · by_cases d : x < q.2
                · exact .inl (.inl ⟨a, d⟩)
                · exact .inr ⟨by omega, b⟩
              · exact .inl (.inr k)
            · rintro ((⟨a, b⟩ | k) | ⟨a, b⟩)
              · exact .inl ⟨a, by omega⟩
              · exact .inr k
              · exact .inl ⟨by omega, b⟩
        · rw [if_neg c]
          refine ⟨List.pairwise_cons.mpr ⟨fun u hu => ?_, h3⟩, fun u hu => ?_, fun u hu => ?_, fun x => ?_⟩
          · rcases List.mem_cons.mp hu with rfl | hu
            · omega
            · have := hr.1 u hu
              omega
          · rcases List.mem_cons.mp hu with rfl | hu
            · exact hp
            · exact h4 u hu
          · rcases List.mem_cons.mp hu with rfl | hu
            · exact Int.le_refl _
            · have := h5 u hu p (List.mem_cons_self ..)
              omega
          · rw [cov_cons]
            exact Or.comm
    obtain ⟨s1, s2, s3, s4⟩ := st
    obtain ⟨r1, r2, r3⟩ := foldJ_ok S (stepJ acc p) hS.2 (fun u hu => h2 u (List.mem_cons_of_mem _ hu)) s1 s2 fun u hu v hv => by
      have a := s3 u hu
      have b := hS.1 v hv
      omega
    refine ⟨r1, r2, fun x => ?_⟩
    show cov (S.foldl stepJ (stepJ acc p)) x ↔ _
    rw [r3, s4, cov_cons, or_assoc]
def inC (A : List (Int × Int)) (x : Int) : Bool := A.any fun u => decide (u.1 ≤ x) && decide (x < u.2)
theorem inC_iff {A : List (Int × Int)} {x : Int} : inC A x = true ↔ cov A x := by
  unfold inC
  rw [List.any_eq_true]
  constructor
  · rintro ⟨u, hu, h⟩
    simp only [Bool.and_eq_true, decide_eq_true_eq] at h
    exact ⟨u, hu, h⟩
  · rintro ⟨u, hu, h⟩
    exact ⟨u, hu, by simpa using h⟩
def sel (A : List (Int × Int)) (f g : Int → Nat) (x : Int) : Nat := if inC A x = true then f x else g x
def jn (S : List (Int × Int)) : List (Int × Int) := (S.foldl stepJ []).reverse
theorem jn_ok {S : List (Int × Int)} (h1 : S.Pairwise fun u v => u.2 ≤ v.1) (h2 : ∀ u ∈ S, u.1 < u.2) : can (jn S) ∧ ∀ x, cov (jn S) x ↔ cov S x := by
  obtain ⟨r1, r2, r3⟩ := foldJ_ok S [] h1 h2 List.Pairwise.nil (fun _ h => nomatch h) (fun _ h => nomatch h)
  refine ⟨⟨List.pairwise_reverse.mpr r1, fun u hu => r2 u (List.mem_reverse.mp hu)⟩, fun x => ?_⟩
  have e1 : cov (jn S) x ↔ cov (S.foldl stepJ []) x := by
    constructor
    · rintro ⟨u, hu, k⟩
      exact ⟨u, List.mem_reverse.mp hu, k⟩
    · rintro ⟨u, hu, k⟩
      exact ⟨u, List.mem_reverse.mpr hu, k⟩
  rw [e1, r3]
  exact ⟨fun c => c.elim (fun c => absurd c cov_nil) id, .inr⟩
/-- what is sorted by its beginnings, no two of them on one place -/
theorem apart {S T : List (Int × Int)} (hp : S.Perm T) (hT : T.Pairwise fun u v => u.2 ≤ v.1 ∨ v.2 ≤ u.1) (h2 : ∀ u ∈ T, u.1 < u.2) (hs : S.Pairwise fun u v => u.1 ≤ v.1) : S.Pairwise fun u v => u.2 ≤ v.1 := by
  have h1 : S.Pairwise fun u v => u.2 ≤ v.1 ∨ v.2 ≤ u.1 := (hp.pairwise_iff fun {x y} h => h.symm).mpr hT
  rw [List.pairwise_iff_getElem] at h1 hs ⊢
  intro i j hi hj hij
  have a := h1 i j hi hj hij
  have b := hs i j hi hj hij
  have c := h2 S[j] (hp.mem_iff.mp (List.getElem_mem hj))
  omega
theorem apart2 {A C : List (Int × Int)} (hA : can A) (hC : can C) (hd : ∀ x, cov A x → ¬ cov C x) : (A ++ C).Pairwise fun u v => u.2 ≤ v.1 ∨ v.2 ≤ u.1 := by
  refine List.pairwise_append.mpr ⟨hA.1.imp fun h => .inl (by omega), hC.1.imp fun h => .inl (by omega), fun u hu v hv => ?_⟩
  have a := hA.2 u hu
  have b := hC.2 v hv
  by_cases c : u.2 ≤ v.1
  · exact .inl c
  · by_cases d : v.2 ≤ u.1
    · exact .inr d
    · exfalso
      by_cases e : u.1 ≤ v.1
      · exact hd v.1 ⟨u, hu, e, by omega⟩ ⟨v, hv, Int.le_refl _, b⟩
      · exact hd u.1 ⟨u, hu, Int.le_refl _, a⟩ ⟨v, hv, by omega, by omega⟩

end My
namespace My
open PySem PySem.Spec PyProof.Rows L2 TL
theorem paired_snoc {α β : Type} {R : α → β → Prop} : ∀ {xs : List α} {ys : List β} {y : β}, Paired R xs (ys ++ [y]) → ∃ xs' x, xs = xs' ++ [x] ∧ Paired R xs' ys ∧ R x y
  | _, [], _, .cons r .nil => ⟨[], _, rfl, .nil, r⟩
  | _, _ :: ys, y, .cons r t => by
    obtain ⟨xs', x, rfl, h, hr⟩ := paired_snoc (ys := ys) (y := y) t
    exact ⟨_ :: xs', x, rfl, .cons r h, hr⟩
theorem ixN_last (n : Nat) : ixN (n + 1) (-1) = some n := by
  unfold ixN
  rw [if_neg (by decide), if_pos (by omega)]
  congr 1
  omega
theorem set_last {α : Type} (xs : List α) (x v : α) : (xs ++ [x]).set xs.length v = xs ++ [v] := by
  rw [List.set_append_right _ _ (Nat.le_refl _), Nat.sub_self]
  rfl

section
variable {P : Program} {w : World} {K : PySem.W.Frag} {mg : Str → Option Value} {base : Heap}
def spLack : Sp := fun vs H Q _ => ∃ (a b : Addr) (xs ys : List V) (W : List (Int × Int)) (ps : List Prt), vs = [.ref a, .ref b] ∧ IsS H a xs ∧ Paired (PS2 H) xs (W.map iv) ∧ IsS H b ys ∧ Paired (PT2 H) ys ps ∧ okP ps ∧ W.length ≤ 2000 ∧
  ∀ p zs H', H p = none → Same H H' → H' p = some (.lst zs) → Paired (PS2 H') zs ((lak W (ps.map tb)).map iv) → Q (.ref p) H'
theorem ok_lacking (T : Txt K mg) : FnOk P w K mg base CX0 3 T.f_lacking T.fd_lacking ["wanted", "parts"] spLack := by
  refine T.d_lacking.F.ok sc_lacking (fun vs H Q E h => ?_) (fun cdv A outer s H vs Q E hr h => ?_)
  · obtain ⟨a, b, xs, ys, W, ps, rfl, _⟩ := h
    rfl
  · obtain ⟨a, b, xs, ys, W, ps, rfl, ha, hx, hb, hy, hok, hl, q⟩ := h
    refine ⟨_, (pss_cons (ps_if (pt_cmpR op_eq (pe_callB call_len_seq (by rfl) T.m_len (by decide +kernel) (pa_cons (pv 0) pa_nil)) pe_int (nomark _))
      (pss_one (ps_ret (pe_lst pa_nil)))
      pss_nil)
      (pss_cons (ps_set (i := 2) sc_lacking.nd rfl (.inl rfl) (pe_call (ok_untold_by T) (hr.mono (by decide)) (by rfl) T.d_untold_by.g T.d_untold_by.F.kp T.d_untold_by.b .nil pass0 (pa_cons (pv 1) (pa_cons (pe_ix ix_tup (pe_ix ix_seq (pv 0) (pe_un un_neg pe_int) (fun _ _ => rfl)) pe_int (fun _ _ => rfl)) pa_nil))))
      (pss_one (ps_ret (pe_lc (own := [("at", 3), ("start", 4), ("stop", 5)]) (g := gTup K 3 (gCons (gName 3) (gCons (gName 4) (gCons (gName 5) gNil)))) (tt := tYes) (by rfl) sc_lacking.nd (pi_list (pe_call (ok_meetings T) (hr.mono (by decide)) (by rfl) T.d_meetings.g T.d_meetings.F.kp T.d_meetings.b .nil pass0 (pa_cons (pv 0) (pa_cons (pv 2) pa_nil)))) (blkOk_by (own := [("at", 3), ("start", 4), ("stop", 5)]) (N := ["wanted", "parts", "untold", "at", "start", "stop"]) (sc := defScope s_lacking) (by decide +kernel)) (fun _ _ _ _ _ => (pg_tup rfl (pgs_cons (pg_name (i := 3) sc_lacking.nd rfl (Or.inl rfl)) (pgs_cons (pg_name (i := 4) sc_lacking.nd rfl (Or.inl rfl)) (pgs_cons (pg_name (i := 5) sc_lacking.nd rfl (Or.inl rfl)) pgs_nil))))) (fun _ _ _ _ _ => pts_nil) (fun _ _ _ _ _ => (pe_tup (pa_cons (pv 4) (pa_cons (pv 5) pa_nil))))))))), ?_⟩
    have lx : xs.length = W.length := (Paired.length hx).trans (List.length_map ..)
    refine ⟨.ref a, rfl, a, _, rfl, ha.or, rfl, _, rfl, ite2 (fun e => ?_) (fun e => ?_)⟩
    · have e0 : ((xs.length : Nat) : Int) = 0 := V.int.inj (of_decide_eq_true e)
      have en : W = [] := List.eq_nil_of_length_eq_zero (by omega)
      unfold lak at q
      rw [if_pos en] at q
      exact ⟨Nat.zero_le _, fun p hp => q p [] _ hp (same_upd hp) upd_same .nil⟩
    · have en : W ≠ [] := fun z => e (decide_eq_true (by rw [z] at lx; rw [lx]; rfl))
      unfold lak at q
      rw [if_neg en] at q
      obtain ⟨W', u, hW⟩ : ∃ W' u, W = W' ++ [u] := ⟨W.dropLast, W.getLast en, (List.dropLast_concat_getLast en).symm⟩
      have hlast : lastOf W = u.2 := by
        unfold lastOf
        rw [hW, List.getLast?_concat]
        rfl
      have hx' := hx
      rw [hW, List.map_append] at hx'
      obtain ⟨xs', x, exs, _, t, rfl, ht⟩ := paired_snoc hx'
      have al : atI xs (-1) = some (.ref t) := by
        rw [exs]
        exact atI_last _ _
      have u1 : atI [V.int u.1, V.int u.2] 1 = some (.int u.2) := rfl
      have lt := unt_len (lastOf W) (ps.map tb) 0
      rw [List.length_map] at lt
      have l1 := hok.1
      refine ⟨.ref b, rfl, .ref a, rfl, 1, rfl, rix_of ha al ⟨t, _, 1, _, rfl, rfl, SqT.of ht, u1, b, ys, ps, u.2, rfl, hb, hy, hok, fun c us H1 nc s1 hc hu => ?_⟩⟩
      rw [← hlast] at hu
      refine ⟨.ref a, rfl, .ref c, rfl, a, c, xs, us, W, unt 0 (lastOf W) (ps.map tb), rfl, ha.mono s1, .inl hc, ps2s_mono s1 hx, hu, by omega, fun d ms H2 nd s2 hd hm => ?_⟩
      have lm : ms.length = (meet W (unt 0 (lastOf W) (ps.map tb))).length := Paired.length hm
      have lM := meet_len W (unt 0 (lastOf W) (ps.map tb))
      generalize meet W (unt 0 (lastOf W) (ps.map tb)) = M at *
      refine ⟨d, rfl, ⟨_, SqL.of hd⟩, fun D hD => ?_⟩
      refine lc_list (K := K) (a := d) (xs := ms) (fun i H' => Same H2 H' ∧ ∃ zs, H' D = some (.lst zs) ∧ Paired (PS2 H') zs (((M.take i).map (·.2)).map iv)) ⟨same_upd hD, [], upd_same, .nil⟩ (fun i H' _ pv => SqL.of (pv.1 _ _ hd)) ?_ ?_
      · rintro i x H3 hi ⟨s3, zs, eD, hz⟩
        obtain ⟨p, hp, r, rfl, hr'⟩ := paired_at hm hi
        have hil : i < M.length := (List.getElem?_eq_some_iff.mp hp).1
        refine ⟨r, _, rfl, SqT.of (s3 _ _ hr'), rfl, _, _, rfl, _, _, rfl, _, _, rfl, rfl, rfl, _, rfl, _, rfl, (by show 2 ≤ sizeLine; decide), fun q2 hq2 => ?_⟩
        have s4 := same_upd (o := .tup [.int p.2.1, .int p.2.2]) hq2
        have eD2 := s4 _ _ eD
        have hzl := Paired.length hz
        rw [List.length_map, List.length_map, List.length_take] at hzl
        refine ⟨zs, eD2, szlt (by omega), same_mut (s3.trans s4) hD, zs ++ [.ref q2], upd_same, ?_⟩
        rw [take_map (fun p : Nat × Int × Int => p.2) hp, List.map_append]
        exact ps2s_upd eD2 (fun _ z => by cases z) (paired_app (ps2s_mono s4 hz) (.cons ⟨q2, rfl, upd_same⟩ .nil))
      · rintro H3 ⟨s3, zs, eD, hz⟩
        rw [lm, List.take_length] at hz
        exact q D zs H3 ((s1.trans s2).free hD) ((s1.trans s2).trans s3) eD hz
def wide (A : List (Int × Int)) : Prop := ∀ u ∈ A, u.2 - u.1 ≤ 20000
theorem okP_partsF {f : Int → Nat} {A : List (Int × Int)} (h1 : A.length ≤ 2000) (h2 : wide A) : okP (partsF f A) := by
  refine ⟨by unfold partsF; rw [List.length_map]; exact h1, fun p hp => ?_⟩
  obtain ⟨u, hu, rfl⟩ := List.mem_map.mp hp
  have := h2 u hu
  show (txtF f u.1 u.2).length ≤ _
  rw [txtF_len]
  omega
def spCut : Sp := fun vs H Q _ => ∃ (a b : Addr) (xs ys : List V) (f : Int → Nat) (A B : List (Int × Int)), vs = [.ref a, .ref b] ∧ IsS H a xs ∧ Paired (PT2 H) xs (partsF f A) ∧ IsS H b ys ∧ Paired (PS2 H) ys (B.map iv) ∧ can A ∧ can B ∧ A.length ≤ 2000 ∧ B.length ≤ 5000 ∧ wide A ∧
  ∀ p zs H', H p = none → Same H H' → H' p = some (.lst zs) → Paired (PT2 H') zs (partsF f ((meet A B).map (·.2))) → Q (.ref p) H'
theorem ok_cut (T : Txt K mg) : FnOk P w K mg base CX0 2 T.f_cut T.fd_cut ["parts", "wanted"] spCut := by
  refine T.d_cut.F.ok sc_cut (fun vs H Q E h => ?_) (fun cdv A outer s H vs Q E hr h => ?_)
  · obtain ⟨a, b, xs, ys, f, A, B, rfl, _⟩ := h
    rfl
  · obtain ⟨a, b, xs, ys, f, A, B, rfl, ha, hx, hb, hy, cA, cB, lA, lB, wA, q⟩ := h
    refine ⟨_, (pss_cons (ps_set (i := 2) sc_cut.nd rfl (.inl rfl) (pe_lst pa_nil))
      (pss_cons (ps_for PassesOwn.never rfl (pi_list (pe_call (ok_meetings T) (hr.mono (by decide)) (by rfl) T.d_meetings.g T.d_meetings.F.kp T.d_meetings.b .nil pass0 (pa_cons (pe_call (ok_told_by T) (hr.mono (by decide)) (by rfl) T.d_told_by.g T.d_told_by.F.kp T.d_told_by.b .nil pass0 (pa_cons (pv 0) pa_nil)) (pa_cons (pv 1) pa_nil)))) (pg_tup rfl (pgs_cons (pg_name (i := 3) sc_cut.nd rfl (.inl rfl)) (pgs_cons (pg_name (i := 4) sc_cut.nd rfl (.inl rfl)) (pgs_cons (pg_name (i := 5) sc_cut.nd rfl (.inl rfl)) pgs_nil))))
      (pss_cons (ps_asg (pe_ix ix_seq (pv 0) (pv 3) (fun _ _ => rfl)) (pg_tup rfl (pgs_cons (pg_name (i := 6) sc_cut.nd rfl (.inl rfl)) (pgs_cons (pg_name (i := 7) sc_cut.nd rfl (.inl rfl)) pgs_nil))))
      (pss_one (ps_expr (pe_bm PySem.F.plainAttrs_list PySem.F.slot_list_append PySem.F.type_list_append mt_append (pv 2) (pa_cons (pe_tup (pa_cons (pv 4) (pa_cons (pe_slice sl_str (pv 7) (po_some (pe_op op_sub (pv 4) (pv 6))) (po_some (pe_op op_sub (pv 5) (pv 6)))) pa_nil))) pa_nil))))))
      (pss_one (ps_ret (pv 2))))), ?_⟩
    refine ⟨Nat.zero_le _, fun L hL => ?_⟩
    have sL := same_upd (o := .lst []) hL
    refine ⟨.ref a, rfl, a, xs, partsF f A, rfl, ha.mono sL, pt2s_mono sL hx, okP_partsF lA wA, fun c us H1 nc s1 hc hu => ?_⟩
    rw [tb_partsF cA] at hu
    have t1 := sL.trans s1
    refine ⟨.ref b, rfl, c, b, us, ys, A, B, rfl, .inl hc, hb.mono t1, hu, ps2s_mono t1 hy, by omega, fun d ms H2 nd s2 hd hm => ?_⟩
    have t2 := t1.trans s2
    have eL2 := s2 _ _ (s1 _ _ (show (upd H L (.lst [])) L = some (.lst []) from upd_same))
    have ndL : d ≠ L := fun z => by
      have := s1 _ _ (show (upd H L (.lst [])) L = some (.lst []) from upd_same)
      rw [← z, nd] at this
      cases this
    have lm : ms.length = (meet A B).length := Paired.length hm
    have lM := meet_len A B
    have hat := fun p (hp : p ∈ meet A B) => meet_at cA cB hp
    generalize meet A B = M at *
    refine ⟨d, rfl, ⟨_, SqL.of hd⟩, for_list (K := K) (a := d) (xs := ms) (fun i σ H' => Same H H' ∧ H' d = some (.lst ms) ∧ Paired (PM3 H') ms M ∧ ∃ (zs : List V) (y3 y4 y5 y6 y7 : Option V), H' L = some (.lst zs) ∧ Paired (PT2 H') zs (partsF f ((M.take i).map (·.2))) ∧ σ = [some (.ref a), some (.ref b), some (.ref L), y3, y4, y5, y6, y7])
      ⟨t2, hd, hm, [], none, none, none, none, none, eL2, .nil, rfl⟩ (fun i σ H' _ pv => SqL.of pv.2.1) ?_ ?_⟩
    · rintro i x σ H3 hi ⟨s3, ed, hm3, zs, y3, y4, y5, y6, y7, eL, hz, rfl⟩
      obtain ⟨p, hp, r, rfl, hr'⟩ := paired_at hm3 hi
      have hil : i < M.length := (List.getElem?_eq_some_iff.mp hp).1
      obtain ⟨p1, u, hu', pu1, pu2⟩ := hat p (List.mem_of_getElem? hp)
      have hkA : p.1 < A.length := (List.getElem?_eq_some_iff.mp hu').1
      have wu := wA u (List.mem_of_getElem? hu')
      obtain ⟨xv, hxv⟩ : ∃ x, xs[p.1]? = some x := by
        have lx : xs.length = A.length := by
          have := Paired.length hx
          unfold partsF at this
          rw [List.length_map] at this
          exact this
        exact ⟨xs[p.1]'(by omega), List.getElem?_eq_getElem (by omega)⟩
      obtain ⟨pt, hpt, t2', rfl, ht2⟩ := paired_at hx hxv
      unfold partsF at hpt
      rw [List.getElem?_map, hu'] at hpt
      cases hpt
      have ht3 := s3 _ _ ht2
      refine ⟨r, _, rfl, SqT.of hr', rfl, _, _, rfl, _, _, rfl, _, _, rfl, rfl, ?_⟩
      refine ⟨.ref a, rfl, _, rfl, rix_of (ha.mono s3) (atI_nat hxv) ⟨t2', _, rfl, SqT.of ht3, rfl, _, _, rfl, _, _, rfl, rfl, ?_⟩⟩
      refine ⟨.ref L, rfl, .inl ⟨rfl, _, SqL.of eL⟩, _, rfl, _, rfl, _, rfl, _, rfl, _, _, rfl, rfl, _, rfl, _, rfl, _, rfl, _, _, rfl, rfl, _, rfl, _, rfl, by rw [txtF_len]; exact szl (by omega), (by show 2 ≤ sizeLine; decide), fun q2 hq2 => ?_⟩
      have ec : cutS (txtF f u.1 u.2) (some (p.2.1 - u.1)) (some (p.2.2 - u.1)) = txtF f p.2.1 p.2.2 := txtF_cut pu1 (by omega) pu2
      have s4 := same_upd (o := .tup [.int p.2.1, .str (cutS (txtF f u.1 u.2) (some (p.2.1 - u.1)) (some (p.2.2 - u.1)))]) hq2
      have eL4 := s4 _ _ eL
      have hzl := Paired.length hz
      unfold partsF at hzl
      rw [List.length_map, List.length_map, List.length_take] at hzl
      refine ⟨L, _, _, rfl, rfl, eL4, szlt (by omega), same_mut (s3.trans s4) hL, by rw [upd_ne ndL]; exact s4 _ _ ed, pm3s_upd eL4 (fun _ z => by cases z) (pm3s_mono s4 hm3), zs ++ [.ref q2], _, _, _, _, _, upd_same, ?_, rfl⟩
      rw [take_map (fun p : Nat × Int × Int => p.2) hp]
      unfold partsF
      rw [List.map_append]
      have eq2 : PT2 (upd H3 q2 (.tup [.int p.2.1, .str (cutS (txtF f u.1 u.2) (some (p.2.1 - u.1)) (some (p.2.2 - u.1)))])) (.ref q2) (p.2.1, txtF f p.2.1 p.2.2) := by
        rw [← ec]
        exact ⟨q2, rfl, upd_same⟩
      exact pt2s_upd eL4 (fun _ z => by cases z) (paired_app (pt2s_mono s4 hz) (.cons eq2 .nil))
    · rintro σ H3 ⟨s3, ed, hm3, zs, y3, y4, y5, y6, y7, eL, hz, rfl⟩
      rw [lm, List.take_length] at hz
      exact ⟨.ref L, rfl, q L zs H3 hL s3 eL hz⟩

end
end My
namespace My
open PySem PySem.Spec PyProof.Rows L2 TL
section
variable {P : Program} {w : World} {K : PySem.W.Frag} {mg : Str → Option Value} {base : Heap}
/-! ### put together -/
theorem dataLe_is {B : Type} (x : B → Int) (y : B → Str) (p q : B) (h : PySem.W.dataLe false (fun b => .tuple [.int (x b), .str (y b)]) p q = true) : x p ≤ x q := by
  have e : PySem.W.dataLt (.tuple [.int (x q), .str (y q)]) (.tuple [.int (x p), .str (y p)]) = false := by
    have h' : (!PySem.W.dataLt (.tuple [.int (x q), .str (y q)]) (.tuple [.int (x p), .str (y p)])) = true := h
    simpa using h'
  rw [PySem.W.dataLt_pair (by simp [PySem.W.alike]) (by simp [PySem.W.alike]), PySem.W.dataLt_int] at e
  simp only [PyData.eqv, beq_iff_eq] at e
  by_cases h1 : x q = x p
  · omega
  · rw [if_neg h1] at e
    have := of_decide_eq_false e
    omega
theorem pt2_bs {H : Hp} : ∀ {zs : List V} {ps : List Prt}, Paired (PT2 H) zs ps → ∃ bs : List (Addr × Int × Str), zs = bs.map (fun b => V.ref b.1) ∧ bs.map (·.2) = ps ∧ ∀ b ∈ bs, H b.1 = some (.tup [.int b.2.1, .str b.2.2])
  | _, _, .nil => ⟨[], rfl, rfl, fun _ h => nomatch h⟩
  | _, p :: _, .cons ⟨t, e, h⟩ r => by
    obtain ⟨bs, e1, e2, h3⟩ := pt2_bs r
    refine ⟨(t, p) :: bs, by rw [e, e1]; rfl, by rw [← e2]; rfl, fun b hb => ?_⟩
    rcases List.mem_cons.mp hb with rfl | hb
    · exact h
    · exact h3 b hb
theorem tb_one {f : Int → Nat} {u : Int × Int} (h : u.1 < u.2) : tb (u.1, txtF f u.1 u.2) = u := by
  unfold tb
  dsimp only
  rw [txtF_len]
  exact Prod.ext rfl (by dsimp only; omega)
def inR (lo : Int) (A : List (Int × Int)) : Prop := 0 ≤ lo ∧ ∀ u ∈ A, lo ≤ u.1 ∧ u.2 ≤ lo + 20000
theorem inR.wide {lo : Int} {A : List (Int × Int)} (h : inR lo A) : wide A := fun u hu => by
  have := h.2 u hu
  omega
theorem inR.pos {lo : Int} {A : List (Int × Int)} (h : inR lo A) : ∀ u ∈ A, 0 ≤ u.1 := fun u hu => by
  have := h.2 u hu
  have := h.1
  omega
theorem rng_of {U : List (Int × Int)} {lo hi : Int} (h : ∀ x, cov U x → lo ≤ x ∧ x < hi) {u : Int × Int} (hu : u ∈ U) (hl : u.1 < u.2) : lo ≤ u.1 ∧ u.2 ≤ hi := by
  have a := h u.1 ⟨u, hu, Int.le_refl _, hl⟩
  have b := h (u.2 - 1) ⟨u, hu, by omega, by omega⟩
  omega
def spJoined : Sp := fun vs H Q _ => ∃ (a b : Addr) (xs ys : List V) (f g : Int → Nat) (A B : List (Int × Int)) (lo : Int), vs = [.ref a, .ref b] ∧ IsS H a xs ∧ Paired (PT2 H) xs (partsF f A) ∧ IsS H b ys ∧ Paired (PT2 H) ys (partsF g B) ∧ can A ∧ can B ∧ A.length ≤ 600 ∧ B.length ≤ 600 ∧ inR lo A ∧ inR lo B ∧
  ∀ p zs U H', H p = none → Same H H' → H' p = some (.lst zs) → can U → (∀ x, cov U x ↔ cov A x ∨ cov B x) → Paired (PT2 H') zs (partsF (sel A f g) U) → Q (.ref p) H'
theorem ok_joined (T : Txt K mg) : FnOk P w K mg base CX0 4 T.f_joined T.fd_joined ["ones", "others"] spJoined := by
  refine T.d_joined.F.ok sc_joined (fun vs H Q E h => ?_) (fun cdv A outer s H vs Q E hr h => ?_)
  · obtain ⟨a, b, xs, ys, f, g, A, B, lo, rfl, _⟩ := h
    rfl
  · obtain ⟨a, b, xs, ys, f, g, A, B, lo, rfl, ha, hx, hb, hy, cA, cB, lA, lB, rA, rB, q⟩ := h
    refine ⟨_, (pss_cons (ps_set (i := 2) sc_joined.nd rfl (.inl rfl) (pe_call (ok_cut T) (hr.mono (by decide)) (by rfl) T.d_cut.g T.d_cut.F.kp T.d_cut.b .nil pass0 (pa_cons (pv 1) (pa_cons (pe_call (ok_lacking T) (hr.mono (by decide)) (by rfl) T.d_lacking.g T.d_lacking.F.kp T.d_lacking.b .nil pass0 (pa_cons (pe_call (ok_told_by T) (hr.mono (by decide)) (by rfl) T.d_told_by.g T.d_told_by.F.kp T.d_told_by.b .nil pass0 (pa_cons (pv 1) pa_nil)) (pa_cons (pv 0) pa_nil))) pa_nil))))
      (pss_cons (ps_set (i := 3) sc_joined.nd rfl (.inl rfl) (pe_lst pa_nil))
      (pss_cons (ps_for PassesOwn.never rfl (pi_list (pe_callB (cr_sortB (fun b : Addr × Int × Str => V.ref b.1) (fun b => .tuple [.int b.2.1, .str b.2.2]) hr.units) (by rfl) T.m_sorted (by decide +kernel) (pa_cons (pe_op op_cat (pe_lc (own := [("start", 4), ("signs", 5)]) (g := gTup K 2 (gCons (gName 4) (gCons (gName 5) gNil))) (tt := tYes) (by rfl) sc_joined.nd (pi_seq (pv 0)) (blkOk_by (own := [("start", 4), ("signs", 5)]) (N := ["ones", "others", "rest", "found", "start", "signs"]) (sc := defScope s_joined) (by decide +kernel)) (fun _ _ _ _ _ => (pg_tup rfl (pgs_cons (pg_name (i := 4) sc_joined.nd rfl (Or.inl rfl)) (pgs_cons (pg_name (i := 5) sc_joined.nd rfl (Or.inl rfl)) pgs_nil)))) (fun _ _ _ _ _ => pts_nil) (fun _ _ _ _ _ => (pe_tup (pa_cons (pv 4) (pa_cons (pv 5) pa_nil))))) (pv 2)) pa_nil))) (pg_tup rfl (pgs_cons (pg_name (i := 4) sc_joined.nd rfl (.inl rfl)) (pgs_cons (pg_name (i := 5) sc_joined.nd rfl (.inl rfl)) pgs_nil)))
      (pss_one (ps_if (PW.pt (pw_and (pt_truth (pv 3) (by intro _; rfl)) (pw_and1 (pt_cmpR op_eq (pe_op op_add (pe_ix ix_tup (pe_ix ix_list (pv 3) (pe_un un_neg pe_int) (fun _ _ => rfl)) pe_int (fun _ _ => rfl)) (pe_callB call_len_str (by rfl) T.m_len (by decide +kernel) (pa_cons (pe_ix ix_tup (pe_ix ix_list (pv 3) (pe_un un_neg pe_int) (fun _ _ => rfl)) pe_int (fun _ _ => rfl)) pa_nil))) (pv 4) (nomark _)))))
      (pss_one (ps_asg (pe_tup (pa_cons (pe_ix ix_tup (pe_ix ix_list (pv 3) (pe_un un_neg pe_int) (fun _ _ => rfl)) pe_int (fun _ _ => rfl)) (pa_cons (pe_op op_add_str (pe_ix ix_tup (pe_ix ix_list (pv 3) (pe_un un_neg pe_int) (fun _ _ => rfl)) pe_int (fun _ _ => rfl)) (pv 5)) pa_nil))) (pg_sub (pv 3) (pe_un un_neg pe_int) set_list)))
      (pss_one (ps_expr (pe_bm PySem.F.plainAttrs_list PySem.F.slot_list_append PySem.F.type_list_append mt_append (pv 3) (pa_cons (pe_tup (pa_cons (pv 4) (pa_cons (pv 5) pa_nil))) pa_nil)))))))
      (pss_one (ps_ret (pv 3)))))), ?_⟩
    have okA : okP (partsF f A) := okP_partsF (by omega) rA.wide
    have okB : okP (partsF g B) := okP_partsF (by omega) rB.wide
    refine ⟨.ref b, rfl, .ref b, rfl, b, ys, partsF g B, rfl, hb, hy, okB, fun c us H1 nc s1 hc hu => ?_⟩
    rw [tb_partsF cB] at hu
    refine ⟨.ref a, rfl, c, a, us, xs, B, partsF f A, rfl, .inl hc, hu, ha.mono s1, pt2s_mono s1 hx, okA, by omega, fun d ws H2 nd s2 hd hw => ?_⟩
    rw [tb_partsF cA] at hw
    obtain ⟨cC, vC⟩ := lak_ok cB cA rB.pos rA.pos
    have lC := lak_len B A
    generalize lak B A = C at *
    have t2 := s1.trans s2
    refine ⟨b, d, ys, ws, g, B, C, rfl, hb.mono t2, pt2s_mono t2 hy, .inl hd, hw, cB, cC, by omega, by omega, rB.wide, fun r zs H3 nr s3 hr3 hz => ?_⟩
    have eC : (meet B C).map (·.2) = C := can_eq _ _ (meet_can cB cC) cC fun x => by
      rw [meet_cov cB cC, vC]
      exact ⟨fun k => k.2, fun k => ⟨k.1, k⟩⟩
    rw [eC] at hz
    have t3 := t2.trans s3
    refine ⟨Nat.zero_le _, fun L hL => ?_⟩
    have sL := same_upd (o := .lst []) hL
    have t4 := t3.trans sL
    have eL4 : (upd H3 L (.lst [])) L = some (.lst []) := upd_same
    have er4 := sL _ _ hr3
    have hz4 := pt2s_mono sL hz
    generalize hH4 : upd H3 L (.lst []) = H4 at *
    have nL : H L = none := t3.free hL
    have lx : xs.length = (partsF f A).length := Paired.length hx
    have lPA : (partsF f A).length = A.length := List.length_map ..
    refine ⟨.ref a, rfl, a, rfl, lc_seq (ha.mono t4) (fun D i H' => Same H4 H' ∧ ∃ bs : List (Addr × Int × Str), H' D = some (.lst (bs.map fun b => V.ref b.1)) ∧ bs.map (·.2) = (partsF f A).take i ∧ ∀ b ∈ bs, H' b.1 = some (.tup [.int b.2.1, .str b.2.2])) (fun D hD => ⟨same_upd hD, [], upd_same, rfl, fun _ h => nomatch h⟩) (fun D i H' _ _ pv => (ha.mono t4).eq pv.1) ?_ ?_⟩
    · rintro D i x H5 hD hi ⟨s5, bs, eD, eb, hbs⟩
      obtain ⟨p, hp, t, rfl, ht⟩ := paired_at hx hi
      have hil : i < (partsF f A).length := (List.getElem?_eq_some_iff.mp hp).1
      refine ⟨t, _, rfl, SqT.of (s5 _ _ (t4 _ _ ht)), rfl, _, _, rfl, _, _, rfl, rfl, rfl, _, rfl, _, rfl, (by show 2 ≤ sizeLine; decide), fun q2 hq2 => ?_⟩
      have s6 := same_upd (o := .tup [.int p.1, .str p.2]) hq2
      have eD2 := s6 _ _ eD
      have hbl : bs.length ≤ i := by
        have h1 : (bs.map (·.2)).length = ((partsF f A).take i).length := by rw [eb]
        rw [List.length_map, List.length_take] at h1
        omega
      refine ⟨_, eD2, by rw [List.length_map]; exact szlt (by omega), same_mut (s5.trans s6) hD, bs ++ [(q2, p)], by rw [upd_same, List.map_append]; rfl, ?_, fun b' hb' => ?_⟩
      · rw [List.map_append, eb, List.take_add_one, hp]
        rfl
      · rcases List.mem_append.mp hb' with h | h
        · exact tup_upd eD2 (fun _ z => by cases z) (s6 _ _ (hbs b' h))
        · rw [List.mem_singleton.mp h]
          exact tup_upd eD2 (fun _ z => by cases z) upd_same
    · rintro D H5 hD ⟨s5, bs1, eD, eb1, hbs1⟩
      rw [lx, List.take_length] at eb1
      obtain ⟨bs2, ez, eb2, hbs2⟩ := pt2_bs hz4
      have er5 := s5 _ _ er4
      rw [ez] at er5
      have hl1 : bs1.length = A.length := by
        have h1 : (bs1.map (·.2)).length = (partsF f A).length := by rw [eb1]
        rw [List.length_map] at h1
        omega
      have hl2 : bs2.length = C.length := by
        have h1 : (bs2.map (·.2)).length = (partsF g C).length := by rw [eb2]
        unfold partsF at h1
        rw [List.length_map, List.length_map] at h1
        omega
      refine ⟨.ref r, rfl, D, r, _, _, rfl, rfl, eD, er5, by rw [List.length_map, List.length_map]; exact szl (by omega), fun e he => ?_⟩
      rw [← List.map_append]
      have s6 := same_upd (o := .lst ((bs1 ++ bs2).map fun b => V.ref b.1)) he
      have hb6 : ∀ b' ∈ bs1 ++ bs2, (upd H5 e (.lst ((bs1 ++ bs2).map fun b => V.ref b.1))) b'.1 = some (.tup [.int b'.2.1, .str b'.2.2]) := fun b' hb' => by
        rcases List.mem_append.mp hb' with h | h
        · exact s6 _ _ (hbs1 b' h)
        · exact s6 _ _ (s5 _ _ (hbs2 b' h))
      have eh : (bs1 ++ bs2).map (·.2) = partsF (sel A f g) (A ++ C) := by
        rw [List.map_append, eb1, eb2, partsF_congr (f := f) (g := sel A f g) fun x hx' => ?_, partsF_congr (f := g) (g := sel A f g) fun x hx' => ?_]
        · unfold partsF
          rw [List.map_append]
        · unfold sel
          rw [if_neg (fun z => ((vC x).mp hx').2 (inC_iff.mp z))]
        · unfold sel
          rw [if_pos (inC_iff.mpr hx')]
      have hl : (bs1 ++ bs2).length ≤ 5000 := by
        rw [List.length_append]
        omega
      have e6 : (upd H5 e (.lst ((bs1 ++ bs2).map fun b => V.ref b.1))) e = some (.lst ((bs1 ++ bs2).map fun b => V.ref b.1)) := upd_same
      have t6 := (t4.trans s5).trans s6
      have eL6 := s6 _ _ (s5 _ _ eL4)
      generalize upd H5 e (.lst ((bs1 ++ bs2).map fun b => V.ref b.1)) = H6 at *
      generalize bs1 ++ bs2 = bs at *
      refine ⟨e, bs, rfl, SqL.of e6, fun b' hb' => .tup (SqT.of (hb6 b' hb')) (.cons (.int _) (.cons (.str _) .nil)), PySem.W.AllAlike.of (fun b b' => by simp [PySem.W.alike, PySem.W.alikeAll]), PySem.W.Sortable.tuples (fun b => ⟨_, _, rfl⟩), fun b _ => by simp [PyData.depth, PyData.depthAll], fun p hp => ?_⟩
      have hperm := sortB_perm (fun b : Addr × Int × Str => .tuple [.int b.2.1, .str b.2.2]) bs
      have hsort := (sortB_sorted (fun b : Addr × Int × Str => .tuple [.int b.2.1, .str b.2.2]) bs).imp fun {x y} h => dataLe_is (fun b : Addr × Int × Str => b.2.1) (fun b => b.2.2) x y h
      generalize hl' : sortB (fun b : Addr × Int × Str => .tuple [.int b.2.1, .str b.2.2]) bs = l at *
      have hT2 : ∀ u ∈ A ++ C, u.1 < u.2 := fun u hu => by
        rcases List.mem_append.mp hu with h | h
        · exact cA.2 u h
        · exact cC.2 u h
      have hS : ∀ b' ∈ l, b'.2 = ((tb b'.2).1, txtF (sel A f g) (tb b'.2).1 (tb b'.2).2) ∧ tb b'.2 ∈ A ++ C := fun b' hb' => by
        have h1 : b'.2 ∈ bs.map (·.2) := List.mem_map.mpr ⟨b', hperm.mem_iff.mp hb', rfl⟩
        rw [eh] at h1
        obtain ⟨u, hu, e'⟩ := List.mem_map.mp h1
        rw [← e', tb_one (hT2 u hu)]
        exact ⟨rfl, hu⟩
      have hpm : (l.map fun b => tb b.2).Perm (A ++ C) := by
        have h1 := hperm.map fun b => tb b.2
        have h2 : bs.map (fun b => tb b.2) = A ++ C := by
          rw [show bs.map (fun b => tb b.2) = (bs.map (·.2)).map tb by rw [List.map_map]; rfl, eh]
          unfold partsF
          rw [List.map_map]
          exact (List.map_congr_left fun u hu => tb_one (hT2 u hu)).trans (List.map_id' _)
        rw [h2] at h1
        exact h1
      have hS1 : (l.map fun b => tb b.2).Pairwise fun u v => u.2 ≤ v.1 := apart hpm (apart2 cA cC fun x h1 h2 => ((vC x).mp h2).2 h1) hT2 (List.pairwise_map.mpr hsort)
      have hS2 : ∀ u ∈ l.map (fun b => tb b.2), u.1 < u.2 := fun u hu => hT2 u (hpm.mem_iff.mp hu)
      have hcS : ∀ x, cov (l.map fun b => tb b.2) x ↔ cov A x ∨ cov B x := fun x => by
        have h1 : cov (l.map fun b => tb b.2) x ↔ cov (A ++ C) x := ⟨fun ⟨u, hu, k⟩ => ⟨u, hpm.mem_iff.mp hu, k⟩, fun ⟨u, hu, k⟩ => ⟨u, hpm.mem_iff.mpr hu, k⟩⟩
        rw [h1, cov_app, vC]
        constructor
        · rintro (k | k)
          · exact .inl k
          · exact .inr k.1
        · rintro (k | k)
          · exact .inl k
          · by_cases z : cov A x
            · exact .inl z
            · exact .inr ⟨k, z⟩
      have hrS : ∀ u ∈ l.map (fun b => tb b.2), lo ≤ u.1 ∧ u.2 ≤ lo + 20000 := fun u hu => rng_of (U := l.map fun b => tb b.2) (fun x hx' => by
        rcases (hcS x).mp hx' with ⟨v, hv, k⟩ | ⟨v, hv, k⟩
        · have := rA.2 v hv
          omega
        · have := rB.2 v hv
          omega) hu (hS2 u hu)
      have hll : l.length = bs.length := hperm.length_eq
      have hb7 : ∀ b' ∈ l, H6 b'.1 = some (.tup [.int b'.2.1, .str b'.2.2]) := fun b' hb' => hb6 b' (hperm.mem_iff.mp hb')
      have s7 := same_upd (o := .lst (l.map fun b => V.ref b.1)) hp
      have npL : p ≠ L := fun z => by
        rw [z, eL6] at hp
        cases hp
      generalize hSS : (l.map fun b => tb b.2) = S at *
      have lS : S.length = l.length := by rw [← hSS, List.length_map]
      have facc : ∀ i, ((S.take i).foldl stepJ []).Pairwise (fun q u => u.2 < q.1) ∧ (∀ u ∈ (S.take i).foldl stepJ [], u.1 < u.2) ∧ ∀ x, cov ((S.take i).foldl stepJ []) x ↔ cov [] x ∨ cov (S.take i) x := fun i => foldJ_ok (S.take i) [] (hS1.sublist (List.take_sublist ..)) (fun u hu => hS2 u (List.mem_of_mem_take hu)) List.Pairwise.nil (fun _ h => nomatch h) (fun _ h => nomatch h)
      refine ⟨p, rfl, ⟨_, SqL.of upd_same⟩, for_list (K := K) (a := p) (xs := l.map fun b => V.ref b.1) (fun i σ H' => Same H H' ∧ (∀ b' ∈ l, H' b'.1 = some (.tup [.int b'.2.1, .str b'.2.2])) ∧ H' p = some (.lst (l.map fun b => V.ref b.1)) ∧ (∃ ys, H' L = some (.lst ys) ∧ Paired (PT2 H') ys (partsF (sel A f g) ((S.take i).foldl stepJ []).reverse) ∧ ys.length ≤ i) ∧ ∃ y4 y5, σ = [some (.ref a), some (.ref b), some (.ref r), some (.ref L), y4, y5])
        ⟨t6.trans s7, fun b' hb' => s7 _ _ (hb7 b' hb'), upd_same, ⟨[], s7 _ _ eL6, .nil, Nat.le_refl _⟩, none, none, rfl⟩ (fun i σ H' _ pv => SqL.of pv.2.2.1) ?_ ?_⟩
      · rintro i x σ H8 hi ⟨s8, hbl, ep, ⟨zs', eL, hy', ly⟩, y4, y5, rfl⟩
        rw [List.getElem?_map] at hi
        cases hk : l[i]? with
        | none =>
          rw [hk] at hi
          cases hi
        | some b' =>
          rw [hk] at hi
          cases hi
          have hil : i < l.length := (List.getElem?_eq_some_iff.mp hk).1
          have hbm := hbl b' (List.mem_of_getElem? hk)
          obtain ⟨eb', mb'⟩ := hS b' (List.mem_of_getElem? hk)
          have hSi : S[i]? = some (tb b'.2) := by
            rw [← hSS, List.getElem?_map, hk]
            rfl
          have hu1 := hS2 _ (List.mem_of_getElem? hSi)
          have hu2 := hrS _ (List.mem_of_getElem? hSi)
          generalize tb b'.2 = u at *
          have hn : (S.take (i + 1)).foldl stepJ [] = stepJ ((S.take i).foldl stepJ []) u := by
            rw [List.take_add_one, hSi, List.foldl_append]
            rfl
          rw [eb'] at hbm
          obtain ⟨f1, f2, f3⟩ := facc i
          refine ⟨b'.1, _, rfl, SqT.of hbm, rfl, _, _, rfl, _, _, rfl, rfl, ?_⟩
          cases hacc : (S.take i).foldl stepJ [] with
          | nil =>
            rw [hacc] at hy' hn
            cases hy'
            refine ⟨.ref L, rfl, false, .inl ⟨[], SqL.of eL, rfl⟩, ?_⟩
            refine ⟨.ref L, rfl, .inl ⟨rfl, _, SqL.of eL⟩, _, rfl, _, rfl, (by show 2 ≤ sizeLine; decide), fun p2 h2 => ?_⟩
            have sp2 := same_upd (o := .tup [.int u.1, .str (txtF (sel A f g) u.1 u.2)]) h2
            have eL2 := sp2 _ _ eL
            refine ⟨L, _, _, rfl, rfl, eL2, (by show 0 < sizeLine; decide), same_mut (s8.trans sp2) nL, fun b'' hb'' => tup_upd eL2 (fun _ z => by cases z) (sp2 _ _ (hbl b'' hb'')), by rw [upd_ne npL]; exact sp2 _ _ ep, ⟨_, upd_same, ?_, by show 1 ≤ _; omega⟩, _, _, rfl⟩
            rw [hn]
            exact .cons ⟨p2, rfl, tup_upd eL2 (fun _ z => by cases z) upd_same⟩ .nil
          | cons qq rr =>
            rw [hacc] at hy' hn f2 f3
            have hq1 := f2 qq (List.mem_cons_self ..)
            have hq2 := rng_of (U := qq :: rr) (lo := lo) (hi := lo + 20000) (fun x hx' => by
              rcases (f3 x).mp hx' with k | ⟨v, hv, k⟩
              · exact absurd k cov_nil
              · have := hrS v (List.mem_of_mem_take hv)
                omega) (List.mem_cons_self ..) hq1
            have hap : partsF (sel A f g) (qq :: rr).reverse = partsF (sel A f g) rr.reverse ++ [(qq.1, txtF (sel A f g) qq.1 qq.2)] := by
              unfold partsF
              rw [List.reverse_cons, List.map_append]
              rfl
            rw [hap] at hy'
            obtain ⟨ys', v, rfl, hy2, t, rfl, ht⟩ := paired_snoc hy'
            have i0 : atI [V.int qq.1, V.str (txtF (sel A f g) qq.1 qq.2)] 0 = some (.int qq.1) := rfl
            have i1 : atI [V.int qq.1, V.str (txtF (sel A f g) qq.1 qq.2)] 1 = some (.str (txtF (sel A f g) qq.1 qq.2)) := rfl
            have tl1 := txtF_len (sel A f g) qq.1 qq.2
            have tl2 := txtF_len (sel A f g) u.1 u.2
            refine ⟨.ref L, rfl, true, .inl ⟨_, SqL.of eL, by cases ys' <;> rfl⟩, ?_⟩
            refine ⟨.ref L, rfl, 1, rfl, L, _, -1, _, rfl, rfl, SqL.of eL, atI_last _ _, t, _, 0, _, rfl, rfl, SqT.of ht, i0, .ref L, rfl, 1, rfl, L, _, -1, _, rfl, rfl, SqL.of eL, atI_last _ _, t, _, 1, _, rfl, rfl, SqT.of ht, i1, _, rfl, szl (by omega), _, _, rfl, rfl, _, rfl, rfl, _, rfl, ite2 (fun e => ?_) (fun e => ?_)⟩
            · have e' : qq.1 + ((txtF (sel A f g) qq.1 qq.2).length : Int) = u.1 := V.int.inj (of_decide_eq_true e)
              have e2 : qq.2 = u.1 := by omega
              rw [stepJ_cons, if_pos e2] at hn
              refine ⟨.ref L, rfl, 1, rfl, L, _, -1, _, rfl, rfl, SqL.of eL, atI_last _ _, t, _, 0, _, rfl, rfl, SqT.of ht, i0, .ref L, rfl, 1, rfl, L, _, -1, _, rfl, rfl, SqL.of eL, atI_last _ _, t, _, 1, _, rfl, rfl, SqT.of ht, i1, _, rfl, _, _, rfl, rfl, szl (by dsimp only; omega), (by show 2 ≤ sizeLine; decide), fun p2 h2 => ?_⟩
              have eapp : txtF (sel A f g) qq.1 qq.2 ++ txtF (sel A f g) u.1 u.2 = txtF (sel A f g) qq.1 u.2 := by
                rw [e2]
                exact txtF_app (by omega) (by omega)
              rw [eapp]
              have sp2 := same_upd (o := .tup [.int qq.1, .str (txtF (sel A f g) qq.1 u.2)]) h2
              have eL2 := sp2 _ _ eL
              refine ⟨.ref L, rfl, 1, rfl, L, _, -1, ys'.length, rfl, rfl, eL2, by rw [List.length_append]; exact ixN_last _, same_mut (s8.trans sp2) nL, fun b'' hb'' => tup_upd eL2 (fun _ z => by cases z) (sp2 _ _ (hbl b'' hb'')), by rw [upd_ne npL]; exact sp2 _ _ ep, ⟨_, upd_same, ?_, by rw [List.length_set]; omega⟩, _, _, rfl⟩
              rw [hn, set_last]
              have hap2 : partsF (sel A f g) ((qq.1, u.2) :: rr).reverse = partsF (sel A f g) rr.reverse ++ [(qq.1, txtF (sel A f g) qq.1 u.2)] := by
                unfold partsF
                rw [List.reverse_cons, List.map_append]
                rfl
              rw [hap2]
              exact pt2s_upd eL2 (fun _ z => by cases z) (paired_app (pt2s_mono sp2 hy2) (.cons ⟨p2, rfl, upd_same⟩ .nil))
            · have e2 : ¬ qq.2 = u.1 := fun z => e (decide_eq_true (congrArg V.int (show qq.1 + ((txtF (sel A f g) qq.1 qq.2).length : Int) = u.1 by omega)))
              rw [stepJ_cons, if_neg e2] at hn
              refine ⟨.ref L, rfl, .inl ⟨rfl, _, SqL.of eL⟩, _, rfl, _, rfl, (by show 2 ≤ sizeLine; decide), fun p2 h2 => ?_⟩
              have sp2 := same_upd (o := .tup [.int u.1, .str (txtF (sel A f g) u.1 u.2)]) h2
              have eL2 := sp2 _ _ eL
              refine ⟨L, _, _, rfl, rfl, eL2, szlt (by omega), same_mut (s8.trans sp2) nL, fun b'' hb'' => tup_upd eL2 (fun _ z => by cases z) (sp2 _ _ (hbl b'' hb'')), by rw [upd_ne npL]; exact sp2 _ _ ep, ⟨_, upd_same, ?_, by rw [List.length_append]; show _ + 1 ≤ _; omega⟩, _, _, rfl⟩
              have hap2 : partsF (sel A f g) (u :: qq :: rr).reverse = partsF (sel A f g) (qq :: rr).reverse ++ [(u.1, txtF (sel A f g) u.1 u.2)] := by
                unfold partsF
                rw [List.reverse_cons, List.map_append]
                rfl
              rw [hn, hap2, hap]
              exact pt2s_upd eL2 (fun _ z => by cases z) (paired_app (pt2s_mono sp2 hy') (.cons ⟨p2, rfl, upd_same⟩ .nil))
      · rintro σ H8 ⟨s8, hbl, ep, ⟨zs', eL, hy', ly⟩, y4, y5, rfl⟩
        rw [List.length_map, List.take_of_length_le (by omega)] at hy'
        obtain ⟨cU, vU⟩ := jn_ok hS1 hS2
        exact ⟨.ref L, rfl, q L zs' (jn S) H8 nL s8 eL cU (fun x => (vU x).trans (hcS x)) hy'⟩

end
end My
namespace My
open PySem PySem.Spec PyProof.Rows L2 TL
/-! ### what parts are as data -/
def ptd (p : Prt) : PyData := .tuple [.int p.1, .str p.2]
theorem dp_pts {K : PySem.W.Frag} {H : Hp} : ∀ {xs : List V} {ps : List Prt}, Paired (PT2 H) xs ps → DpAll K H xs (ps.map ptd)
  | _, _, .nil => .nil
  | _, _, .cons h t => by
    obtain ⟨a, rfl, h⟩ := h
    exact .cons (.tup (SqT.of h) (.cons (.int _) (.cons (.str _) .nil))) (dp_pts t)
theorem lay_pts : ∀ ps : List Prt, (∀ p ∈ ps, Asc p.2) → PyData.canLayAll0 (ps.map ptd) = true
  | [], _ => rfl
  | p :: t, h => by simp [PyData.canLayAll0, PyData.canLay0, ptd, ok_asc (h p (List.mem_cons_self ..)), lay_pts t fun y hy => h y (List.mem_cons_of_mem _ hy)]
theorem depth_pts : ∀ ps : List Prt, PyData.depthAll (ps.map ptd) ≤ 1
  | [] => Nat.zero_le _
  | r :: t => by
    have := depth_pts t
    simp only [List.map_cons, PyData.depthAll, ptd, PyData.depth]
    show max _ _ ≤ 1
    have e : max 0 (max 0 0) + 1 = 1 := rfl
    omega
theorem shaped_pts {ps : List Prt} (h : ∀ p ∈ ps, Asc p.2) : SeqAt.shaped (.list (ps.map ptd)) = true := by
  have := depth_pts ps
  simp only [SeqAt.shaped, PyData.canLay0, PyData.depth, lay_pts ps h, Bool.true_and]
  exact decide_eq_true (by omega)
theorem asc_txtF {f : Int → Nat} (h : ∀ x, f x < 128) (a b : Int) : Asc (txtF f a b) := by
  unfold txtF
  refine asc_mk fun c hc => ?_
  obtain ⟨i, _, rfl⟩ := List.mem_map.mp hc
  exact h _
theorem asc_partsF {f : Int → Nat} (h : ∀ x, f x < 128) (S : List (Int × Int)) : ∀ p ∈ partsF f S, Asc p.2 := fun p hp => by
  obtain ⟨u, _, rfl⟩ := List.mem_map.mp hp
  exact asc_txtF h _ _
/-- two that are alike as data don't differ -/
theorem ne_same {K : PySem.W.Frag} {H : Hp} {x y : V} {d : PyData} {Q : VK} (hx : Dp K H x d) (hy : Dp K H y d) (sh : SeqAt.shaped d = true) (q : Q (.bl false) H) : rNeD K x y H Q := by
  refine ⟨d, d, hx, hy, sh, sh, ?_⟩
  rw [SeqAt.eqv_refl _ (SeqAt.canLay_of_shaped sh)]
  exact q
theorem ne_pts {K : PySem.W.Frag} {H : Hp} {p q : Addr} {xs ys : List V} {ps : List Prt} {Q : VK} (hp : H p = some (.lst xs)) (hx : Paired (PT2 H) xs ps) (hq : H q = some (.lst ys)) (hy : Paired (PT2 H) ys ps) (ha : ∀ p ∈ ps, Asc p.2) (k : Q (.bl false) H) : rNeD K (.ref p) (.ref q) H Q :=
  ne_same (.lst (SqL.of hp) (dp_pts hx)) (.lst (SqL.of hq) (dp_pts hy)) (shaped_pts ha) k
theorem ne_sps {K : PySem.W.Frag} {H : Hp} {p q : Addr} {xs ys : List V} {ps : List Spn} {Q : VK} (hp : H p = some (.lst xs)) (hx : Paired (PS2 H) xs ps) (hq : H q = some (.lst ys)) (hy : Paired (PS2 H) ys ps) (k : Q (.bl false) H) : rNeD K (.ref p) (.ref q) H Q :=
  ne_same (.lst (SqL.of hp) (dp_sps hx)) (.lst (SqL.of hq) (dp_sps hy)) (shaped_sps _) k
/-! ### the sign of each place of a text -/
def sgn (z : Str) (x : Int) : Nat := (z.cps.toList[x.toNat]?).getD 0
theorem sgn_asc {z : Str} (h : Asc z) (x : Int) : sgn z x < 128 := by
  unfold sgn
  cases e : z.cps.toList[x.toNat]? with
  | none => show (0 : Nat) < 128; decide
  | some c => exact h c (List.mem_of_getElem? e)
theorem txt_sgn (z : Str) : txtF (sgn z) 0 (z.length : Int) = z := by
  refine PyProof.Rows.ext_toList ?_
  unfold txtF
  show (List.range ((z.length : Int) - 0).toNat).map (fun i => sgn z (0 + (i : Nat))) = z.cps.toList
  have hl := len_tl z
  apply List.ext_getElem
  · rw [List.length_map, List.length_range]
    omega
  · intro i h1 h2
    rw [List.getElem_map, List.getElem_range]
    unfold sgn
    rw [show ((0 : Int) + (i : Nat)).toNat = i by omega, List.getElem?_eq_getElem h2]
    rfl
theorem cut_sgn {z : Str} {s t : Int} (h1 : 0 ≤ s) (h2 : s ≤ t) (h3 : t ≤ (z.length : Int)) : cutS z (some s) (some t) = txtF (sgn z) s t := by
  have h := txtF_cut (f := sgn z) (a := 0) (b := (z.length : Int)) h1 h2 h3
  rw [txt_sgn, Int.sub_zero, Int.sub_zero] at h
  exact h
/-! ### sums -/
def lenS (S : List (Int × Int)) : Int := (S.map fun u => u.2 - u.1).sum
theorem wgt_partsF {f : Int → Nat} {S : List (Int × Int)} (h : ∀ u ∈ S, u.1 < u.2) : wgt (partsF f S) = lenS S := by
  unfold wgt partsF lenS
  rw [List.map_map]
  congr 1
  refine List.map_congr_left fun u hu => ?_
  show ((txtF f u.1 u.2).length : Int) = u.2 - u.1
  rw [txtF_len]
  have := h u hu
  omega
theorem unt_sum (size : Int) : ∀ (A : List (Int × Int)) (a : Int), can A → (∀ u ∈ A, a ≤ u.1 ∧ u.2 ≤ size) → a ≤ size → lenS (unt a size A) + lenS A = size - a
  | [], a, _, _, h => by
    unfold unt lenS
    split
    · show (size - a + 0) + 0 = _
      omega
    · show (0 : Int) + 0 = _
      omega
  | u :: r, a, hA, ha, h => by
    obtain ⟨u1, u2, u3⟩ := can_cons hA
    have hu := ha u (List.mem_cons_self ..)
    have ih := unt_sum size r u.2 u2 (fun v hv => ⟨by have := u3 v hv; omega, (ha v (List.mem_cons_of_mem _ hv)).2⟩) hu.2
    unfold lenS at ih ⊢
    show (((if a < u.1 then [(a, u.1)] else []) ++ unt u.2 size r).map fun u => u.2 - u.1).sum + ((u.2 - u.1) + (r.map fun u => u.2 - u.1).sum) = size - a
    by_cases c : a < u.1
    · rw [if_pos c]
      show ((u.1 - a) + ((unt u.2 size r).map fun u => u.2 - u.1).sum) + _ = _
      omega
    · rw [if_neg c, List.nil_append]
      omega
theorem unt_top (size : Int) : ∀ (A : List (Int × Int)) (a : Int), (∀ u ∈ A, u.1 ≤ size) → ∀ v ∈ unt a size A, v.2 ≤ size
  | [], a, _, v, hv => by
    unfold unt at hv
    split at hv
    · rw [List.mem_singleton.mp hv]
      exact Int.le_refl _
    · cases hv
  | u :: r, a, h, v, hv => by
    have hv' : v ∈ (if a < u.1 then [(a, u.1)] else []) ++ unt u.2 size r := hv
    rcases List.mem_append.mp hv' with k | k
    · split at k
      · rw [List.mem_singleton.mp k]
        exact h u (List.mem_cons_self ..)
      · cases k
    · exact unt_top size r u.2 (fun w hw => h w (List.mem_cons_of_mem _ hw)) v k

section
variable {P : Program} {w : World} {K : PySem.W.Frag} {mg : Str → Option Value} {base : Heap}
theorem ok_law_well (T : Txt K mg) : FnOk P w K mg base CX0 1 T.f_law_well T.fd_law_well ["_law_cell"] spWell := by
  refine T.d_law_well.F.ok sc_law_well (fun vs H Q E h => ?_) (fun cdv A outer s H vs Q E hr h => ?_)
  · obtain ⟨n, rfl, _⟩ := h
    rfl
  · obtain ⟨n, rfl, q⟩ := h
    refine ⟨_, (pss_one (ps_ret (pe_lst (pa_cons (pe_op op_mul (pv 0) (pe_callTy call_int1 (by rfl) T.m_int (by decide +kernel) (pa_cons (pe_cmpR op_ge (pv 0) (pe_op op_pow pe_int pe_int) (nomark _)) pa_nil))) (pa_cons (pe_op op_mod (pv 0) pe_int) (pa_cons pe_int pa_nil)))))), ?_⟩
    refine ⟨.int n, rfl, .int n, rfl, 10, 18, rfl, rfl, ⟨by decide, by decide, by decide⟩, n, _, rfl, rfl, .inr ⟨_, rfl, n, _, rfl, rfl, ?_, .int n, rfl, n, _, rfl, rfl, (show (0 : Int) < 2147483647 by decide), ?_⟩⟩
    · refine .inr ?_
      split <;> decide
    · exact ⟨(by show 3 ≤ sizeLine; decide), fun p hp => q p _ _ _ hp⟩
theorem ok_law_draw (T : Txt K mg) : FnOk P w K mg base CX0 1 T.f_law_draw T.fd_law_draw ["_law_well_here", "_law_many"] spDraw := by
  refine T.d_law_draw.F.ok sc_law_draw (fun vs H Q E h => ?_) (fun cdv A outer s H vs Q E hr h => ?_)
  · obtain ⟨W, m, rfl, _⟩ := h
    rfl
  · obtain ⟨W, m, rfl, m0, m1, hI, q⟩ := h
    obtain ⟨a, b, c, hW⟩ := id hI
    have i0 : atI [V.int a, .int b, .int c] 0 = some (.int a) := rfl
    have i1 : atI [V.int a, .int b, .int c] 1 = some (.int b) := rfl
    have i2 : atI [V.int a, .int b, .int c] 2 = some (.int c) := rfl
    refine ⟨_, (pss_cons (ps_if (pt_cmpR op_gt (pe_ix ix_list (pv 0) pe_int (fun _ _ => rfl)) pe_int (nomark _))
      (pss_cons (ps_set (i := 2) sc_law_draw.nd rfl (.inl rfl) (pe_op op_mod (pe_ix ix_list (pv 0) pe_int (fun _ _ => rfl)) (pv 1)))
      (pss_cons (ps_asg (pe_op op_fdiv (pe_ix ix_list (pv 0) pe_int (fun _ _ => rfl)) (pv 1)) (pg_sub (pv 0) pe_int set_list))
      (pss_one (ps_ret (pv 2)))))
      pss_nil)
      (pss_cons (ps_asg (pe_op op_add (pe_ix ix_list (pv 0) pe_int (fun _ _ => rfl)) pe_int) (pg_sub (pv 0) pe_int set_list))
      (pss_cons (ps_set (i := 3) sc_law_draw.nd rfl (.inl rfl) (pe_op op_mod (pe_op op_mul (pe_op op_add (pe_op op_add (pe_ix ix_list (pv 0) pe_int (fun _ _ => rfl)) (pe_op op_mul pe_int (pe_ix ix_list (pv 0) pe_int (fun _ _ => rfl)))) pe_int) pe_int) pe_int))
      (pss_cons (ps_set (i := 3) sc_law_draw.nd rfl (.inl rfl) (pe_op op_mod (pe_op op_mul (pv 3) (pe_op op_add (pe_op op_fdiv (pv 3) pe_int) pe_int)) pe_int))
      (pss_one (ps_ret (pe_op op_mod (pe_op op_mod (pe_op op_mul (pv 3) (pe_op op_add (pe_op op_fdiv (pv 3) pe_int) pe_int)) pe_int) (pv 1)))))))), ?_⟩
    refine ⟨.ref W, rfl, W, _, 0, _, rfl, rfl, SqL.of hW, i0, a, 0, rfl, rfl, _, rfl, ite2 (fun e => ?_) (fun e => ?_)⟩
    · refine ⟨.ref W, rfl, W, _, 0, _, rfl, rfl, SqL.of hW, i0, .int m, rfl, a, m, rfl, rfl, m0, ?_⟩
      refine ⟨.ref W, rfl, W, _, 0, _, rfl, rfl, SqL.of hW, i0, .int m, rfl, a, m, rfl, rfl, ⟨m0, m1⟩, .ref W, rfl, W, _, 0, 0, rfl, rfl, hW, rfl, ?_⟩
      exact ⟨_, rfl, q _ _ (mod_lt m0).1 (mod_lt m0).2 ((Wx.refl hI).set _ _ _)⟩
    · refine ⟨.ref W, rfl, W, _, 2, _, rfl, rfl, SqL.of hW, i2, c, 1, rfl, rfl, .ref W, rfl, W, _, 2, 2, rfl, rfl, hW, rfl, ?_⟩
      have hW' : (upd H W (W3 a b (c + 1))) W = some (W3 a b (c + 1)) := upd_same
      have j1 : atI [V.int a, .int b, .int (c + 1)] 1 = some (.int b) := rfl
      have j2 : atI [V.int a, .int b, .int (c + 1)] 2 = some (.int (c + 1)) := rfl
      refine ⟨.ref W, rfl, W, _, 1, _, rfl, rfl, SqL.of hW', j1, .ref W, rfl, W, _, 2, _, rfl, rfl, SqL.of hW', j2, 7919, _, rfl, rfl, .inl (by decide), b, _, rfl, rfl, _, 1, rfl, rfl, _, 48271, rfl, rfl, .inr (by decide), _, 2147483647, rfl, rfl, (show (0 : Int) < 2147483647 by decide), ?_⟩
      refine ⟨_, rfl, _, rfl, _, 1009, rfl, rfl, ⟨by decide, by decide⟩, _, 69621, rfl, rfl, _, _, rfl, rfl, cmul_of (mod_lt (by decide)), _, 2147483647, rfl, rfl, (show (0 : Int) < 2147483647 by decide), ?_⟩
      refine ⟨_, rfl, _, rfl, _, 2003, rfl, rfl, ⟨by decide, by decide⟩, _, 40692, rfl, rfl, _, _, rfl, rfl, cmul_of (mod_lt (by decide)), _, 2147483399, rfl, rfl, (show (0 : Int) < 2147483399 by decide), .int m, rfl, _, m, rfl, rfl, m0, ?_⟩
      exact q _ _ (mod_lt m0).1 (mod_lt m0).2 ((Wx.refl hI).set _ _ _)

def abe : Str := " !\"#$&'()*+,-./0123456789:;<=>?@ABCDEFGHIJKLMNOPQRSTUVWXYZ[\\]^_`abcdefghijklmnopqrstuvwxyz{|}~"
def spTxtE : Sp := fun vs H Q _ => ∃ (W : Addr) (n : Int), vs = [.ref W, .int n] ∧ 0 ≤ n ∧ n ≤ 200 ∧ IsW H W ∧ ∀ t H', (t.length : Int) = n → Asc t → Wx W H H' → Q (.str t) H'
theorem ok_law_text (T : Txt K mg) : FnOk P w K mg base CX0 2 T.f_law_text T.fd_law_text ["_law_well_here", "_law_many"] spTxtE := by
  refine T.d_law_text.F.ok sc_law_text (fun vs H Q E h => ?_) (fun cdv A outer s H vs Q E hr h => ?_)
  · obtain ⟨W, n, rfl, _⟩ := h
    rfl
  · obtain ⟨W, n, rfl, n0, n1, hI, q⟩ := h
    refine ⟨_, (pss_cons (ps_set (i := 2) sc_law_text.nd rfl (.inr rfl) pe_str)
      (pss_one (ps_ret (pe_join pe_str (pe_lc (own := [("_law_k", 3)]) (g := gName 3) (tt := tYes) (by rfl) sc_law_text.nd (pi_range1 (by rfl) T.m_range (pa_cons (pv 1) pa_nil)) (blkOk_by (own := [("_law_k", 3)]) (N := ["_law_well_here", "_law_many", "_law_some", "_law_k"]) (sc := defScope s_law_text) (by decide +kernel)) (fun _ _ _ _ _ => (pg_name (i := 3) sc_law_text.nd rfl (Or.inl rfl))) (fun _ _ _ _ _ => pts_nil) (fun _ _ _ _ _ => (pe_ix ix_str (pv 2) (pe_call (ok_law_draw T) (hr.mono (by decide)) (by rfl) T.d_law_draw.g T.d_law_draw.F.kp T.d_law_draw.b .nil pass0 (pa_cons (pv 0) (pa_cons (pe_callB call_len_str (by rfl) T.m_len (by decide +kernel) (pa_cons (pv 2) pa_nil)) pa_nil))) (fun _ _ => rfl)))))))), ?_⟩
    refine ⟨⟨_, rfl⟩, .int n, rfl, _, rfl, by omega, by omega, fun D hD => ?_⟩
    have nD : W ≠ D := hI.ne hD
    refine lc_range (lo := 0) (n := n.toNat) (fun i H' => ∃ t : List Nat, t.length = i ∧ (∀ c ∈ t, c ∈ abe.cps.toList) ∧ Wx W H H' ∧ H' D = some (.lst (t.map fun c => V.str ⟨#[c]⟩)))
      ⟨[], rfl, (fun _ h => nomatch h), (Wx.refl hI).new hD, upd_same⟩ ?_ ?_
    · rintro i H' hi ⟨t, tn, tz, x, hD'⟩
      refine ⟨rfl, .str abe, rfl, .ref W, rfl, .str abe, rfl, abe, rfl, (by show abe.length ≤ sizeLine; decide), W, 94, rfl, by decide, by decide, x.well, fun r H5 r0 r1 x5 => ?_⟩
      obtain ⟨c, hc, ec⟩ := atI_in (xs := abe.cps.toList) r0 r1
      refine ⟨abe, r, c, rfl, rfl, by decide, ec, _, x5.keep D _ nD.symm hD', ?_, t ++ [c], ?_, ?_, (x.trans x5).mut hD nD, ?_⟩
      · rw [List.length_map]
        exact szlt (by omega)
      · rw [List.length_append, tn]
        rfl
      · intro d hd
        rcases List.mem_append.mp hd with h | h
        · exact tz d h
        · rw [List.mem_singleton.mp h]
          exact hc
      · rw [upd_same, List.map_append]
        rfl
    · rintro H' ⟨t, tn, tz, x, hD'⟩
      refine ⟨_, D, t.map fun c => (⟨#[c]⟩ : Str), rfl, rfl, .inl (SqL.of (by rw [hD', List.map_map]; rfl)), ?_, ?_⟩
      · rw [sum_ones, List.length_map]
        show t.length + t.length * 0 ≤ _
        omega
      · rw [join_signs _ rfl]
        exact q _ H' (by rw [mk_len]; omega) (asc_mk fun c hc => (by decide : ∀ c ∈ abe.cps.toList, c < 128) c (tz c hc)) x
def spRuns : Sp := fun vs H Q _ => ∃ (W : Addr) (size : Int), vs = [.ref W, .int size] ∧ 0 ≤ size ∧ size ≤ 200 ∧ IsW H W ∧ ∀ p xs R H', H p = none → Wx W H H' → H' p = some (.lst xs) → Paired (PS2 H') xs (R.map iv) → can R → (∀ u ∈ R, 0 ≤ u.1 ∧ u.2 ≤ size) → R.length ≤ 60 → Q (.ref p) H'
theorem can_snoc {F : List (Int × Int)} {u : Int × Int} (h : can F) (h1 : u.1 < u.2) (h2 : ∀ v ∈ F, v.2 < u.1) : can (F ++ [u]) :=
  ⟨List.pairwise_append.mpr ⟨h.1, List.pairwise_singleton _ _, fun v hv w hw => by rw [List.mem_singleton.mp hw]; exact h2 v hv⟩, fun v hv => by
    rcases List.mem_append.mp hv with k | k
    · exact h.2 v k
    · rw [List.mem_singleton.mp k]
      exact h1⟩
theorem ok_law_runs (T : Txt K mg) : FnOk P w K mg base CX0 2 T.f_law_runs T.fd_law_runs ["_law_well_here", "_law_size"] spRuns := by
  refine T.d_law_runs.F.ok sc_law_runs (fun vs H Q E h => ?_) (fun cdv A outer s H vs Q E hr h => ?_)
  · obtain ⟨W, n, rfl, _⟩ := h
    rfl
  · obtain ⟨W, size, rfl, n0, n1, hI, q⟩ := h
    refine ⟨_, (pss_cons (ps_set (i := 2) sc_law_runs.nd rfl (.inl rfl) (pe_lst pa_nil))
      (pss_cons (ps_set (i := 3) sc_law_runs.nd rfl (.inl rfl) (pe_ix ix_list (pe_lst (pa_cons pe_int (pa_cons pe_int (pa_cons (pe_call (ok_law_draw T) (hr.mono (by decide)) (by rfl) T.d_law_draw.g T.d_law_draw.F.kp T.d_law_draw.b .nil pass0 (pa_cons (pv 0) (pa_cons pe_int pa_nil))) pa_nil)))) (pe_call (ok_law_draw T) (hr.mono (by decide)) (by rfl) T.d_law_draw.g T.d_law_draw.F.kp T.d_law_draw.b .nil pass0 (pa_cons (pv 0) (pa_cons pe_int pa_nil))) (fun _ _ => rfl)))
      (pss_cons (ps_set (i := 4) sc_law_runs.nd rfl (.inl rfl) (pe_ix ix_list (pe_lst (pa_cons pe_int (pa_cons pe_int (pa_cons pe_int (pa_cons pe_int (pa_cons pe_int (pa_cons pe_int pa_nil))))))) (pe_call (ok_law_draw T) (hr.mono (by decide)) (by rfl) T.d_law_draw.g T.d_law_draw.F.kp T.d_law_draw.b .nil pass0 (pa_cons (pv 0) (pa_cons pe_int pa_nil))) (fun _ _ => rfl)))
      (pss_cons (ps_while PassesOwn.never (PW.pt (pw_and (pt_cmpR op_lt (pv 3) (pv 1) (nomark _)) (pw_and1 (pt_cmpR op_lt (pe_callB call_len_seq (by rfl) T.m_len (by decide +kernel) (pa_cons (pv 2) pa_nil)) (pv 4) (nomark _)))))
      (pss_cons (ps_set (i := 5) sc_law_runs.nd rfl (.inl rfl) (pe_op op_add pe_int (pe_call (ok_law_draw T) (hr.mono (by decide)) (by rfl) T.d_law_draw.g T.d_law_draw.F.kp T.d_law_draw.b .nil pass0 (pa_cons (pv 0) (pa_cons (pe_ix ix_list (pe_lst (pa_cons pe_int (pa_cons pe_int (pa_cons pe_int pa_nil)))) (pe_call (ok_law_draw T) (hr.mono (by decide)) (by rfl) T.d_law_draw.g T.d_law_draw.F.kp T.d_law_draw.b .nil pass0 (pa_cons (pv 0) (pa_cons pe_int pa_nil))) (fun _ _ => rfl)) pa_nil)))))
      (pss_cons (ps_expr (pe_bm PySem.F.plainAttrs_list PySem.F.slot_list_append PySem.F.type_list_append mt_append (pv 2) (pa_cons (pe_tup (pa_cons (pv 3) (pa_cons (pe_callB (call_min2 rfl) (by rfl) T.m_min (by decide +kernel) (pa_cons (pe_op op_add (pv 3) (pv 5)) (pa_cons (pv 1) pa_nil))) pa_nil))) pa_nil)))
      (pss_one (ps_set (i := 3) sc_law_runs.nd rfl (.inl rfl) (pe_op op_add (pe_op op_add (pe_op op_add (pv 3) (pv 5)) pe_int) (pe_call (ok_law_draw T) (hr.mono (by decide)) (by rfl) T.d_law_draw.g T.d_law_draw.F.kp T.d_law_draw.b .nil pass0 (pa_cons (pv 0) (pa_cons (pe_ix ix_list (pe_lst (pa_cons pe_int (pa_cons pe_int (pa_cons pe_int pa_nil)))) (pe_call (ok_law_draw T) (hr.mono (by decide)) (by rfl) T.d_law_draw.g T.d_law_draw.F.kp T.d_law_draw.b .nil pass0 (pa_cons (pv 0) (pa_cons pe_int pa_nil))) (fun _ _ => rfl)) pa_nil)))))))))
      (pss_one (ps_ret (pv 2))))))), ?_⟩
    refine ⟨Nat.zero_le _, fun L hL => ?_⟩
    have nWL : W ≠ L := hI.ne hL
    have x0 := (Wx.refl hI).new (o := .lst []) hL
    have eL0 : (upd H L (.lst [])) L = some (.lst []) := upd_same
    generalize upd H L (.lst []) = H0 at *
    refine ⟨.ref W, rfl, W, 5, rfl, by decide, by decide, x0.well, fun r1 H1 r10 r11 x1 => ⟨(by show 3 ≤ sizeLine; decide), fun p1 h1 => ?_⟩⟩
    have x2 := (Wx.refl x1.well).new (o := .lst (([0, 0, r1] : List Int).map V.int)) h1
    refine ⟨.ref W, rfl, W, 3, rfl, by decide, by decide, x2.well, fun r3 H3 r30 r31 x3 => ?_⟩
    obtain ⟨at0, hat, eat⟩ := ints_at (ns := [0, 0, r1]) r30 r31
    have at00 : 0 ≤ at0 := by
      simp only [List.mem_cons, List.not_mem_nil, or_false] at hat
      rcases hat with rfl | rfl | rfl <;> omega
    refine ⟨p1, _, r3, _, rfl, rfl, SqL.of (x3.keep p1 _ (x1.well.ne h1).symm upd_same), eat, ?_⟩
    refine ⟨(by show 6 ≤ sizeLine; decide), fun p4 h4 => ?_⟩
    have x4 := (Wx.refl x3.well).new (o := .lst (([0, 1, 1, 3, 8, 60] : List Int).map V.int)) h4
    refine ⟨.ref W, rfl, W, 6, rfl, by decide, by decide, x4.well, fun r5 H5 r50 r51 x5 => ?_⟩
    obtain ⟨most, hmost, emost⟩ := ints_at (ns := [0, 1, 1, 3, 8, 60]) r50 r51
    have m60 : most ≤ 60 := (by decide : ∀ n ∈ ([0, 1, 1, 3, 8, 60] : List Int), n ≤ 60) most hmost
    refine ⟨p4, _, r5, _, rfl, rfl, SqL.of (x5.keep p4 _ (x3.well.ne h4).symm upd_same), emost, ?_⟩
    have x05 := (((x1.trans x2).trans x3).trans x4).trans x5
    have X5 := x0.trans x05
    have eL5 := x05.keep _ _ nWL.symm eL0
    refine ⟨fun m σ H' => ∃ (at_ : Int) (zs : List V) (F : List (Int × Int)) (y5 : Option V), m = (size - at_).toNat ∧ 0 ≤ at_ ∧ Wx W H H' ∧ H' L = some (.lst zs) ∧ Paired (PS2 H') zs (F.map iv) ∧ can F ∧ (∀ u ∈ F, 0 ≤ u.1 ∧ u.2 ≤ size ∧ u.2 < at_) ∧ F.length ≤ 60 ∧ σ = [some (.ref W), some (.int size), some (.ref L), some (.int at_), some (.int most), y5],
      ⟨_, at0, [], [], none, rfl, at00, X5, eL5, .nil, ⟨List.Pairwise.nil, (fun _ h => nomatch h)⟩, (fun _ h => nomatch h), Nat.zero_le _, rfl⟩, ?_⟩
    rintro m σ H6 ⟨at_, zs, F, y5, rfl, a0, x6, eL, hz, cF, hF, lF, rfl⟩
    have lz : zs.length = F.length := (Paired.length hz).trans (List.length_map ..)
    refine ⟨_, rfl, _, rfl, _, _, rfl, rfl, _, rfl, ite2 (fun e => ?_) (fun e => ?_)⟩
    · have e1 : at_ < size := of_decide_eq_true e
      refine ⟨.ref L, rfl, L, _, rfl, .inl (SqL.of eL), _, rfl, _, _, rfl, rfl, _, rfl, ite2 (fun e2 => ?_) (fun e2 => ?_)⟩
      · have e3 : (zs.length : Int) < most := of_decide_eq_true e2
        refine ⟨fun σ' H' => ∃ m', m' < (size - at_).toNat ∧ ∃ (at_ : Int) (zs : List V) (F : List (Int × Int)) (y5 : Option V), m' = (size - at_).toNat ∧ 0 ≤ at_ ∧ Wx W H H' ∧ H' L = some (.lst zs) ∧ Paired (PS2 H') zs (F.map iv) ∧ can F ∧ (∀ u ∈ F, 0 ≤ u.1 ∧ u.2 ≤ size ∧ u.2 < at_) ∧ F.length ≤ 60 ∧ σ' = [some (.ref W), some (.int size), some (.ref L), some (.int at_), some (.int most), y5], fun σ' H' h => h, ?_⟩
        refine ⟨.ref W, rfl, (by show 3 ≤ sizeLine; decide), fun p7 h7 => ?_⟩
        have x7 := (Wx.refl x6.well).new (o := .lst (([1, 4, 90] : List Int).map V.int)) h7
        refine ⟨.ref W, rfl, W, 3, rfl, by decide, by decide, x7.well, fun r8 H8 r80 r81 x8 => ?_⟩
        obtain ⟨k, hk, ek⟩ := ints_at (ns := [1, 4, 90]) r80 r81
        have bk : 0 < k ∧ k < 1000 := (by decide : ∀ n ∈ ([1, 4, 90] : List Int), 0 < n ∧ n < 1000) k hk
        refine ⟨p7, _, r8, _, rfl, rfl, SqL.of (x8.keep p7 _ (x6.well.ne h7).symm upd_same), ek, W, k, rfl, bk.1, by omega, x8.well, fun r9 H9 r90 r91 x9 => ⟨1, r9, rfl, rfl, ?_⟩⟩
        have x69 := (x7.trans x8).trans x9
        have eL9 := x69.keep _ _ nWL.symm eL
        have hz9 := ps2s_wx x6.well x69 hz
        refine ⟨.ref L, rfl, .inl ⟨rfl, _, SqL.of eL9⟩, _, rfl, _, rfl, _, rfl, _, _, rfl, rfl, _, rfl, _, _, rfl, (by show 2 ≤ sizeLine; decide), fun p10 h10 => ?_⟩
        have s10 := same_upd (o := .tup [.int at_, .int (mn (at_ + (1 + r9)) size)]) h10
        have eL10 := s10 _ _ eL9
        refine ⟨L, _, _, rfl, rfl, eL10, szlt (by omega), ?_⟩
        have x10 : Wx W H (upd (upd H9 p10 (.tup [.int at_, .int (mn (at_ + (1 + r9)) size)])) L (.lst (zs ++ [.ref p10]))) := ((x6.trans x69).new h10).mut hL nWL
        refine ⟨_, rfl, _, rfl, _, _, rfl, rfl, _, 1, rfl, rfl, .ref W, rfl, (by show 3 ≤ sizeLine; decide), fun p11 h11 => ?_⟩
        have x11 := (Wx.refl x10.well).new (o := .lst (([1, 4, 40] : List Int).map V.int)) h11
        refine ⟨.ref W, rfl, W, 3, rfl, by decide, by decide, x11.well, fun r12 H12 r120 r121 x12 => ?_⟩
        obtain ⟨j, hj, ej⟩ := ints_at (ns := [1, 4, 40]) r120 r121
        have bj : 0 < j ∧ j < 1000 := (by decide : ∀ n ∈ ([1, 4, 40] : List Int), 0 < n ∧ n < 1000) j hj
        refine ⟨p11, _, r12, _, rfl, rfl, SqL.of (x12.keep p11 _ (x10.well.ne h11).symm upd_same), ej, W, j, rfl, bj.1, by omega, x12.well, fun r13 H13 r130 r131 x13 => ⟨_, r13, rfl, rfl, ?_⟩⟩
        have x1013 := (x11.trans x12).trans x13
        have hm1 : mn (at_ + (1 + r9)) size ≤ size ∧ mn (at_ + (1 + r9)) size ≤ at_ + (1 + r9) ∧ at_ < mn (at_ + (1 + r9)) size := by
          unfold mn
          split <;> omega
        have hz10 : Paired (PS2 (upd (upd H9 p10 (.tup [.int at_, .int (mn (at_ + (1 + r9)) size)])) L (.lst (zs ++ [.ref p10])))) (zs ++ [.ref p10]) ((F ++ [(at_, mn (at_ + (1 + r9)) size)]).map iv) := by
          rw [List.map_append]
          exact ps2s_upd eL10 (fun _ z => by cases z) (paired_app (ps2s_mono s10 hz9) (.cons ⟨p10, rfl, upd_same⟩ .nil))
        refine ⟨(size - (at_ + (1 + r9) + 1 + r13)).toNat, by omega, at_ + (1 + r9) + 1 + r13, zs ++ [.ref p10], F ++ [(at_, mn (at_ + (1 + r9)) size)], _, rfl, by omega, x10.trans x1013, x1013.keep _ _ nWL.symm upd_same, ps2s_wx x10.well x1013 hz10, can_snoc cF hm1.2.2 (fun v hv => (hF v hv).2.2), fun u hu => ?_, by rw [List.length_append]; show F.length + 1 ≤ 60; omega, rfl⟩
        rcases List.mem_append.mp hu with k' | k'
        · have := hF u k'
          omega
        · rw [List.mem_singleton.mp k']
          dsimp only
          omega
      · exact ⟨.ref L, rfl, q L zs F H6 hL x6 eL hz cF (fun u hu => ⟨(hF u hu).1, (hF u hu).2.1⟩) lF⟩
    · exact ⟨.ref L, rfl, q L zs F H6 hL x6 eL hz cF (fun u hu => ⟨(hF u hu).1, (hF u hu).2.1⟩) lF⟩
def spRest : Sp := fun vs H Q _ => ∃ (a : Addr) (xs : List V) (A : List (Int × Int)) (size : Int), vs = [.ref a, .int size] ∧ H a = some (.lst xs) ∧ Paired (PS2 H) xs (A.map iv) ∧ A.length ≤ 2000 ∧ ∀ p ys H', H p = none → Same H H' → H' p = some (.lst ys) → Paired (PS2 H') ys ((unt 0 size A).map iv) → Q (.ref p) H'
theorem ok_law_rest (T : Txt K mg) : FnOk P w K mg base CX0 1 T.f_law_rest T.fd_law_rest ["_law_runs_here", "_law_size"] spRest := by
  refine T.d_law_rest.F.ok sc_law_rest (fun vs H Q E h => ?_) (fun cdv A outer s H vs Q E hr h => ?_)
  · obtain ⟨a, xs, A, size, rfl, _⟩ := h
    rfl
  · obtain ⟨a, zs, A, size, rfl, ha, hz, lA, q⟩ := h
    refine ⟨_, (pss_cons (ps_set (i := 2) sc_law_rest.nd rfl (.inl rfl) (pe_lst pa_nil))
      (pss_cons (ps_set (i := 3) sc_law_rest.nd rfl (.inl rfl) pe_int)
      (pss_cons (ps_for PassesOwn.never rfl (pi_list (pv 0)) (pg_tup rfl (pgs_cons (pg_name (i := 4) sc_law_rest.nd rfl (.inl rfl)) (pgs_cons (pg_name (i := 5) sc_law_rest.nd rfl (.inl rfl)) pgs_nil)))
      (Evl.pss_cut (ps_if (pt_cmpR op_lt (pv 3) (pv 4) (nomark _))
      (pss_one (ps_expr (pe_bm PySem.F.plainAttrs_list PySem.F.slot_list_append PySem.F.type_list_append mt_append (pv 2) (pa_cons (pe_tup (pa_cons (pv 3) (pa_cons (pv 4) pa_nil))) pa_nil))))
      pss_nil)
      (pss_one (ps_set (i := 3) sc_law_rest.nd rfl (.inl rfl) (pv 5)))))
      (pss_cons (ps_if (pt_cmpR op_lt (pv 3) (pv 1) (nomark _))
      (pss_one (ps_expr (pe_bm PySem.F.plainAttrs_list PySem.F.slot_list_append PySem.F.type_list_append mt_append (pv 2) (pa_cons (pe_tup (pa_cons (pv 3) (pa_cons (pv 1) pa_nil))) pa_nil))))
      pss_nil)
      (pss_one (ps_ret (pv 2))))))), ?_⟩
    refine ⟨Nat.zero_le _, fun L hL => ?_⟩
    have sL := same_upd (o := .lst []) hL
    have lz : zs.length = A.length := (Paired.length hz).trans (List.length_map ..)
    refine ⟨.ref a, rfl, a, rfl, ⟨_, SqL.of (sL _ _ ha)⟩, for_list (K := K) (a := a) (xs := zs) (fun i σ H' => Same H H' ∧ ∃ (ys : List V) (acc : List (Int × Int)) (at_ : Int) (y4 y5 : Option V), H' L = some (.lst ys) ∧ Paired (PS2 H') ys (acc.map iv) ∧ acc.length ≤ i ∧ acc ++ unt at_ size (A.drop i) = unt 0 size A ∧ σ = [some (.ref a), some (.int size), some (.ref L), some (.int at_), y4, y5])
      ⟨sL, [], [], 0, none, none, upd_same, .nil, Nat.le_refl _, rfl, rfl⟩ (fun i σ H' _ pv => SqL.of (pv.1 _ _ ha)) ?_ ?_⟩
    · rintro i x σ H2 hi ⟨s2, ys, acc, at_, y4, y5, eL, hy, la, eq, rfl⟩
      obtain ⟨sp, hsp, t, rfl, ht1⟩ := paired_at hz hi
      rw [List.getElem?_map] at hsp
      cases hk : A[i]? with
      | none =>
        rw [hk] at hsp
        cases hsp
      | some u =>
        rw [hk] at hsp
        cases hsp
        have hil : i < A.length := (List.getElem?_eq_some_iff.mp hk).1
        have hdrop : A.drop i = u :: A.drop (i + 1) := by
          obtain ⟨hi', rfl⟩ := List.getElem?_eq_some_iff.mp hk
          exact List.drop_eq_getElem_cons hi'
        have ht := s2 _ _ ht1
        refine ⟨t, _, rfl, SqT.of ht, rfl, _, _, rfl, _, _, rfl, rfl, ?_⟩
        rw [hdrop] at eq
        have eq' : (acc ++ (if at_ < u.1 then [(at_, u.1)] else [])) ++ unt u.2 size (A.drop (i + 1)) = unt 0 size A := by
          rw [List.append_assoc]
          exact eq
        refine ⟨fun σ' H' => Same H H' ∧ (∃ (ys : List V), H' L = some (.lst ys) ∧ Paired (PS2 H') ys ((acc ++ (if at_ < u.1 then [(at_, u.1)] else [])).map iv)) ∧ σ' = [some (.ref a), some (.int size), some (.ref L), some (.int at_), some (.int u.1), some (.int u.2)], ?_, ?_⟩
        · refine ⟨_, rfl, _, rfl, _, _, rfl, rfl, _, rfl, ite2 (fun e => ?_) (fun e => ?_)⟩
          · rw [if_pos (of_decide_eq_true e)]
            refine ⟨.ref L, rfl, .inl ⟨rfl, _, SqL.of eL⟩, _, rfl, _, rfl, (by show 2 ≤ sizeLine; decide), fun p hp => ?_⟩
            have sp := same_upd (o := .tup [.int at_, .int u.1]) hp
            have eLp := sp _ _ eL
            refine ⟨L, _, _, rfl, rfl, eLp, by rw [Paired.length hy, List.length_map]; exact szlt (by omega), same_mut (s2.trans sp) hL, ⟨ys ++ [.ref p], upd_same, ?_⟩, rfl⟩
            rw [List.map_append]
            exact ps2s_upd eLp (fun _ z => by cases z) (paired_app (ps2s_mono sp hy) (.cons ⟨p, rfl, upd_same⟩ .nil))
          · rw [if_neg (fun z => e (decide_eq_true z)), List.append_nil]
            exact ⟨s2, ⟨ys, eL, hy⟩, rfl⟩
        · rintro σ' H3 ⟨s3, ⟨ys3, eL3, hy3⟩, rfl⟩
          refine ⟨_, rfl, s3, ys3, _, u.2, _, _, eL3, hy3, ?_, eq', rfl⟩
          rw [List.length_append]
          split <;> simp only [List.length_cons, List.length_nil] <;> omega
    · rintro σ H2 ⟨s2, ys, acc, at_, y4, y5, eL, hy, la, eq, rfl⟩
      rw [List.drop_of_length_le (by omega)] at eq
      have eq' : acc ++ (if at_ < size then [(at_, size)] else []) = unt 0 size A := eq
      refine ⟨_, rfl, _, rfl, _, _, rfl, rfl, _, rfl, ite2 (fun e => ?_) (fun e => ?_)⟩
      · rw [if_pos (of_decide_eq_true e)] at eq'
        refine ⟨.ref L, rfl, .inl ⟨rfl, _, SqL.of eL⟩, _, rfl, _, rfl, (by show 2 ≤ sizeLine; decide), fun p hp => ?_⟩
        have sp := same_upd (o := .tup [.int at_, .int size]) hp
        have eLp := sp _ _ eL
        refine ⟨L, _, _, rfl, rfl, eLp, by rw [Paired.length hy, List.length_map]; exact szlt (by omega), .ref L, rfl, q L (ys ++ [.ref p]) _ hL (same_mut (s2.trans sp) hL) upd_same ?_⟩
        rw [← eq', List.map_append]
        exact ps2s_upd eLp (fun _ z => by cases z) (paired_app (ps2s_mono sp hy) (.cons ⟨p, rfl, upd_same⟩ .nil))
      · rw [if_neg (fun z => e (decide_eq_true z)), List.append_nil] at eq'
        rw [← eq'] at q
        exact ⟨.ref L, rfl, q L ys H2 hL s2 eL hy⟩
end
end My
namespace My
open PySem PySem.Spec PyProof.Rows L2 TL
/-! ### lists of stretches and of parts, and the defs by them -/
def LS (H : Hp) (a : Addr) (S : List (Int × Int)) : Prop := ∃ xs, H a = some (.lst xs) ∧ Paired (PS2 H) xs (S.map iv)
def LP (H : Hp) (a : Addr) (ps : List Prt) : Prop := ∃ xs, H a = some (.lst xs) ∧ Paired (PT2 H) xs ps
def IQ (H : Hp) (a : Addr) (S : List (Int × Int)) : Prop := ∃ xs, IsS H a xs ∧ Paired (PS2 H) xs (S.map iv)
def IP (H : Hp) (a : Addr) (ps : List Prt) : Prop := ∃ xs, IsS H a xs ∧ Paired (PT2 H) xs ps
theorem LS.mono {H H' : Hp} {a : Addr} {S : List (Int × Int)} (s : Same H H') : LS H a S → LS H' a S := fun ⟨xs, h, hx⟩ => ⟨xs, s _ _ h, ps2s_mono s hx⟩
theorem LP.mono {H H' : Hp} {a : Addr} {ps : List Prt} (s : Same H H') : LP H a ps → LP H' a ps := fun ⟨xs, h, hx⟩ => ⟨xs, s _ _ h, pt2s_mono s hx⟩
theorem IQ.mono {H H' : Hp} {a : Addr} {S : List (Int × Int)} (s : Same H H') : IQ H a S → IQ H' a S := fun ⟨xs, h, hx⟩ => ⟨xs, h.mono s, ps2s_mono s hx⟩
theorem IP.mono {H H' : Hp} {a : Addr} {ps : List Prt} (s : Same H H') : IP H a ps → IP H' a ps := fun ⟨xs, h, hx⟩ => ⟨xs, h.mono s, pt2s_mono s hx⟩
theorem LS.iq {H : Hp} {a : Addr} {S : List (Int × Int)} : LS H a S → IQ H a S := fun ⟨xs, h, hx⟩ => ⟨xs, .inl h, hx⟩
theorem LP.ip {H : Hp} {a : Addr} {ps : List Prt} : LP H a ps → IP H a ps := fun ⟨xs, h, hx⟩ => ⟨xs, .inl h, hx⟩
theorem LS.nil {H : Hp} {a : Addr} (h : H a = some (.lst [])) : LS H a [] := ⟨[], h, .nil⟩
theorem LP.nil {H : Hp} {a : Addr} (h : H a = some (.lst [])) : LP H a [] := ⟨[], h, .nil⟩
theorem ne_lp {K : PySem.W.Frag} {H : Hp} {p q : Addr} {ps : List Prt} {Q : VK} (hp : LP H p ps) (hq : LP H q ps) (ha : ∀ p ∈ ps, Asc p.2) (k : Q (.bl false) H) : rNeD K (.ref p) (.ref q) H Q := by
  obtain ⟨xs, h1, h2⟩ := hp
  obtain ⟨ys, h3, h4⟩ := hq
  exact ne_pts h1 h2 h3 h4 ha k
theorem ne_ls {K : PySem.W.Frag} {H : Hp} {p q : Addr} {S : List (Int × Int)} {Q : VK} (hp : LS H p S) (hq : LS H q S) (k : Q (.bl false) H) : rNeD K (.ref p) (.ref q) H Q := by
  obtain ⟨xs, h1, h2⟩ := hp
  obtain ⟨ys, h3, h4⟩ := hq
  exact ne_sps h1 h2 h3 h4 k
/-- a row of stretches within a text of at most 20000 signs -/
structure Row (lo : Int) (S : List (Int × Int)) : Prop where
  can : can S
  inR : inR lo S
  len : S.length ≤ 600
theorem sel_self (A : List (Int × Int)) (f : Int → Nat) : sel A f f = f := by
  funext x
  unfold sel
  split <;> rfl
@[irreducible] def spCutI : Sp := spCut
@[irreducible] def spLackI : Sp := spLack
@[irreducible] def spJoinedI : Sp := spJoined
@[irreducible] def spWeightI : Sp := spWeight
theorem cut_of {vs : List V} {H : Hp} {Q : VK} {X} {a b : Addr} {f : Int → Nat} {A B C : List (Int × Int)} {lo : Int} (hv : vs = [.ref a, .ref b]) (ha : IP H a (partsF f A)) (hb : IQ H b B) (rA : Row lo A) (cB : can B) (lB : B.length ≤ 600) (hC : (meet A B).map (·.2) = C)
    (k : ∀ p H', H p = none → Same H H' → LP H' p (partsF f C) → Q (.ref p) H') : spCutI vs H Q X := by
  unfold spCutI
  obtain ⟨xs, h1, h2⟩ := ha
  obtain ⟨ys, h3, h4⟩ := hb
  have := rA.len
  exact ⟨a, b, xs, ys, f, A, B, hv, h1, h2, h3, h4, rA.can, cB, by omega, by omega, rA.inR.wide, fun p zs H' np s h5 h6 => k p H' np s ⟨zs, h5, hC ▸ h6⟩⟩
theorem lack_of {vs : List V} {H : Hp} {Q : VK} {X} {a b : Addr} {f : Int → Nat} {A W C : List (Int × Int)} {lo : Int} (hv : vs = [.ref a, .ref b]) (ha : IQ H a W) (hb : IP H b (partsF f A)) (rA : Row lo A) (lW : W.length ≤ 600) (hC : lak W A = C)
    (k : ∀ p H', H p = none → Same H H' → LS H' p C → Q (.ref p) H') : spLackI vs H Q X := by
  unfold spLackI
  obtain ⟨xs, h1, h2⟩ := ha
  obtain ⟨ys, h3, h4⟩ := hb
  have := rA.len
  refine ⟨a, b, xs, ys, W, partsF f A, hv, h1, h2, h3, h4, okP_partsF (by omega) rA.inR.wide, by omega, fun p zs H' np s h5 h6 => k p H' np s ⟨zs, h5, ?_⟩⟩
  rw [tb_partsF rA.can, hC] at h6
  exact h6
theorem join_of {vs : List V} {H : Hp} {Q : VK} {X} {a b : Addr} {f : Int → Nat} {A B C : List (Int × Int)} {lo : Int} (hv : vs = [.ref a, .ref b]) (ha : IP H a (partsF f A)) (hb : IP H b (partsF f B)) (rA : Row lo A) (rB : Row lo B) (cC : can C) (hC : ∀ x, cov C x ↔ cov A x ∨ cov B x)
    (k : ∀ p H', H p = none → Same H H' → LP H' p (partsF f C) → Q (.ref p) H') : spJoinedI vs H Q X := by
  unfold spJoinedI
  obtain ⟨xs, h1, h2⟩ := ha
  obtain ⟨ys, h3, h4⟩ := hb
  refine ⟨a, b, xs, ys, f, f, A, B, lo, hv, h1, h2, h3, h4, rA.can, rB.can, rA.len, rB.len, rA.inR, rB.inR, fun p zs U H' np s h5 cU vU h6 => k p H' np s ⟨zs, h5, ?_⟩⟩
  rw [sel_self, can_eq U C cU cC fun x => (vU x).trans (hC x).symm] at h6
  exact h6
theorem weight_of {vs : List V} {H : Hp} {Q : VK} {X} {a : Addr} {f : Int → Nat} {A : List (Int × Int)} {lo : Int} (hv : vs = [.ref a]) (ha : IP H a (partsF f A)) (rA : Row lo A) (k : ∀ H', Same H H' → Q (.int (lenS A)) H') : spWeightI vs H Q X := by
  unfold spWeightI
  obtain ⟨xs, h1, h2⟩ := ha
  have := rA.len
  refine ⟨a, xs, partsF f A, hv, h1, h2, okP_partsF (by omega) rA.inR.wide, fun H' s => ?_⟩
  rw [wgt_partsF rA.can.2]
  exact k H' s
theorem rep_one (b : Bool) (v : V) : (List.replicate (if b = true then (1 : Int) else 0).toNat [v]).flatten = if b = true then [v] else [] := by
  cases b <;> rfl

def EE (N : Int) : List (Int × Int) := if decide (N > 0) = true then [(0, N)] else []
theorem can_nil : can [] := ⟨List.Pairwise.nil, (fun _ h => nomatch h)⟩
structure Ok7 (N : Int) (R : List (Int × Int)) : Prop where
  n0 : 0 ≤ N
  n1 : N ≤ 200
  cR : can R
  bR : ∀ u ∈ R, 0 ≤ u.1 ∧ u.2 ≤ N
  lR : R.length ≤ 60
section
variable {N : Int} {R : List (Int × Int)}
theorem covE (N : Int) (x : Int) : cov (EE N) x ↔ 0 ≤ x ∧ x < N := by
  unfold EE
  split
  · rw [cov_cons]
    exact ⟨fun c => c.elim id fun c => absurd c cov_nil, .inl⟩
  · rename_i h
    have h' : ¬ N > 0 := fun z => h (decide_eq_true z)
    exact ⟨fun c => absurd c cov_nil, fun c => by omega⟩
theorem rowE (h0 : 0 ≤ N) (h : N ≤ 200) : Row 0 (EE N) := by
  unfold EE
  split
  · rename_i h'
    have h2 := of_decide_eq_true h'
    refine ⟨can_mk (by dsimp only; omega) can_nil (fun _ h => nomatch h), ⟨Int.le_refl _, fun u hu => ?_⟩, by show 1 ≤ 600; decide⟩
    rw [List.mem_singleton.mp hu]
    dsimp only
    omega
  · exact ⟨can_nil, ⟨Int.le_refl _, fun _ h => nomatch h⟩, Nat.zero_le _⟩
theorem row_nil : Row 0 [] := ⟨can_nil, ⟨Int.le_refl _, fun _ h => nomatch h⟩, Nat.zero_le _⟩
theorem Ok7.row (h : Ok7 N R) : Row 0 R := ⟨h.cR, ⟨Int.le_refl _, fun u hu => by have := h.bR u hu; have := h.n1; omega⟩, by have := h.lR; omega⟩
theorem Ok7.sub (h : Ok7 N R) {x : Int} (c : cov R x) : 0 ≤ x ∧ x < N := by
  obtain ⟨u, hu, c⟩ := c
  have := h.bR u hu
  omega
theorem Ok7.unt (h : Ok7 N R) : Row 0 (unt 0 N R) ∧ ∀ x, cov (My.unt 0 N R) x ↔ (0 ≤ x ∧ x < N) ∧ ¬ cov R x := by
  obtain ⟨r1, r2, r3⟩ := unt_ok N R 0 h.cR fun u hu => (h.bR u hu).1
  have r4 := unt_top N R 0 fun u hu => by
    have := h.bR u hu
    have := h.cR.2 u hu
    omega
  have l := unt_len N R 0
  have := h.n1
  have := h.lR
  refine ⟨⟨r1, ⟨Int.le_refl _, fun u hu => by have := r2 u hu; have := r4 u hu; omega⟩, by omega⟩, fun x => ?_⟩
  constructor
  · intro c
    obtain ⟨u, hu, c1, c2⟩ := id c
    have a1 := r4 u hu
    have a2 := r2 u hu
    exact ⟨⟨by omega, by omega⟩, ((r3 x (by omega)).mp c).2⟩
  · rintro ⟨⟨c0, c1⟩, c2⟩
    exact (r3 x c1).mpr ⟨c0, c2⟩
theorem meet_eq {A B C : List (Int × Int)} (hA : can A) (hB : can B) (hC : can C) (h : ∀ x, cov C x ↔ cov A x ∧ cov B x) : (meet A B).map (·.2) = C :=
  can_eq _ _ (meet_can hA hB) hC fun x => (meet_cov hA hB x).trans (h x).symm
theorem lak_eq {A B C : List (Int × Int)} (hA : Row 0 A) (hB : Row 0 B) (hC : can C) (h : ∀ x, cov C x ↔ cov A x ∧ ¬ cov B x) : lak A B = C := by
  obtain ⟨a, b⟩ := lak_ok hA.can hB.can hA.inR.pos hB.inR.pos
  exact can_eq _ _ a hC fun x => (b x).trans (h x).symm
theorem pOf_sgn {z : Str} (h : (z.length : Int) = N) : pOf z = partsF (sgn z) (EE N) := by
  unfold pOf EE
  by_cases c : N > 0
  · rw [if_pos (decide_eq_true c), if_neg (fun e => ?_)]
    · show [((0 : Int), z)] = [(0, txtF (sgn z) 0 N)]
      rw [← h, txt_sgn]
    · cases e
      have : (("" : Str).length : Int) = 0 := rfl
      omega
  · rw [if_neg (fun e => c (of_decide_eq_true e)), if_pos]
    · rfl
    · have h0 : z.length = 0 := by omega
      congr 1
      refine PyProof.Rows.ext_toList ?_
      have := len_tl z
      exact List.eq_nil_of_length_eq_zero (by omega)
end
structure All7 (H : Hp) (p3 r u e pp so ot : Addr) (sc : List V) (f : Int → Nat) (R U E : List (Int × Int)) : Prop where
  sc : H p3 = some (.lst sc)
  r : LS H r R
  u : LS H u U
  e : LS H e E
  p : LP H pp (partsF f E)
  so : LP H so (partsF f R)
  ot : LP H ot (partsF f U)
theorem All7.mono {H H' : Hp} {p3 r u e pp so ot : Addr} {sc : List V} {f : Int → Nat} {R U E : List (Int × Int)} (s : Same H H') (h : All7 H p3 r u e pp so ot sc f R U E) : All7 H' p3 r u e pp so ot sc f R U E :=
  ⟨s _ _ h.sc, h.r.mono s, h.u.mono s, h.e.mono s, h.p.mono s, h.so.mono s, h.ot.mono s⟩
section
variable {P : Program} {w : World} {K : PySem.W.Frag} {mg : Str → Option Value} {base : Heap}
theorem ok_cutI (T : Txt K mg) : FnOk P w K mg base CX0 2 T.f_cut T.fd_cut ["parts", "wanted"] spCutI := by
  delta spCutI
  exact ok_cut T
theorem ok_lackingI (T : Txt K mg) : FnOk P w K mg base CX0 3 T.f_lacking T.fd_lacking ["wanted", "parts"] spLackI := by
  delta spLackI
  exact ok_lacking T
theorem ok_joinedI (T : Txt K mg) : FnOk P w K mg base CX0 4 T.f_joined T.fd_joined ["ones", "others"] spJoinedI := by
  delta spJoinedI
  exact ok_joined T
theorem ok_weightI (T : Txt K mg) : FnOk P w K mg base CX0 1 T.f_weight T.fd_weight ["parts"] spWeightI := by
  delta spWeightI
  exact ok_weight T
theorem ok_law (T : Txt K mg) : FnOk P w K mg base CX0 5 T.f_law T.fd_law ["_law_script"] (spLaw K) := by
  refine T.d_law.F.ok sc_law (fun vs H Q E h => ?_) (fun cdv A outer s H vs Q E hr h => ?_)
  · obtain ⟨a, ns, rfl, _⟩ := h
    rfl
  · obtain ⟨a, ns, rfl, hS, hlen, q⟩ := h
    refine ⟨_, (pss_cons (ps_for PassesOwn.never rfl (pi_list (pe_op op_cat (pe_slice sl_list (pv 0) po_none (po_some pe_int)) (pe_lst (pa_cons pe_int (pa_cons pe_int (pa_cons pe_int pa_nil)))))) (pg_name (i := 1) sc_law.nd rfl (.inl rfl))
      (pss_cons (ps_set (i := 2) sc_law.nd rfl (.inl rfl) (pe_call (ok_law_well T) (hr.mono (by decide)) (by rfl) T.d_law_well.g T.d_law_well.F.kp T.d_law_well.b .nil pass0 (pa_cons (pv 1) pa_nil)))
      (pss_cons (ps_set (i := 3) sc_law.nd rfl (.inl rfl) (pe_ix ix_list (pe_lst (pa_cons pe_int (pa_cons pe_int (pa_cons (pe_call (ok_law_draw T) (hr.mono (by decide)) (by rfl) T.d_law_draw.g T.d_law_draw.F.kp T.d_law_draw.b .nil pass0 (pa_cons (pv 2) (pa_cons pe_int pa_nil))) (pa_cons (pe_call (ok_law_draw T) (hr.mono (by decide)) (by rfl) T.d_law_draw.g T.d_law_draw.F.kp T.d_law_draw.b .nil pass0 (pa_cons (pv 2) (pa_cons pe_int pa_nil))) (pa_cons pe_int pa_nil)))))) (pe_call (ok_law_draw T) (hr.mono (by decide)) (by rfl) T.d_law_draw.g T.d_law_draw.F.kp T.d_law_draw.b .nil pass0 (pa_cons (pv 2) (pa_cons pe_int pa_nil))) (fun _ _ => rfl)))
      (pss_cons (ps_set (i := 4) sc_law.nd rfl (.inl rfl) (pe_call (ok_law_runs T) (hr.mono (by decide)) (by rfl) T.d_law_runs.g T.d_law_runs.F.kp T.d_law_runs.b .nil pass0 (pa_cons (pv 2) (pa_cons (pv 3) pa_nil))))
      (pss_cons (ps_set (i := 5) sc_law.nd rfl (.inr rfl) (pe_call (ok_law_text T) (hr.mono (by decide)) (by rfl) T.d_law_text.g T.d_law_text.F.kp T.d_law_text.b .nil pass0 (pa_cons (pv 2) (pa_cons (pv 3) pa_nil))))
      (pss_cons (ps_set (i := 6) sc_law.nd rfl (.inl rfl) (pe_call (ok_law_rest T) (hr.mono (by decide)) (by rfl) T.d_law_rest.g T.d_law_rest.F.kp T.d_law_rest.b .nil pass0 (pa_cons (pv 4) (pa_cons (pv 3) pa_nil))))
      (pss_cons (ps_set (i := 7) sc_law.nd rfl (.inl rfl) (pe_op op_rep (pe_lst (pa_cons (pe_tup (pa_cons pe_int (pa_cons (pv 3) pa_nil))) pa_nil)) (pe_callTy call_int1 (by rfl) T.m_int (by decide +kernel) (pa_cons (pe_cmpR op_gt (pv 3) pe_int (nomark _)) pa_nil))))
      (pss_cons (ps_set (i := 8) sc_law.nd rfl (.inl rfl) (pe_call (ok_parts_of T) (hr.mono (by decide)) (by rfl) T.d_parts_of.g T.d_parts_of.F.kp T.d_parts_of.b .nil pass0 (pa_cons (pv 5) pa_nil)))
      (pss_cons (ps_if (PW.pt (pw_or (pt_not (pt_val (pe_callB call_isi (by rfl) T.m_isinstance (by decide +kernel) (pa_cons (pv 8) (pa_cons (pe_bltn (v := .ty "list") (by rfl) T.m_list (by decide +kernel) rfl) pa_nil))))) (pw_or1 (pt_cmpR (op_neD hr.units) (pv 8) (pe_op op_rep (pe_lst (pa_cons (pe_tup (pa_cons pe_int (pa_cons (pv 5) pa_nil))) pa_nil)) (pe_callTy call_int1 (by rfl) T.m_int (by decide +kernel) (pa_cons (pe_cmpR op_gt (pv 3) pe_int (nomark _)) pa_nil))) (nomark _)))))
      (pss_one (ps_ret pe_bl))
      pss_nil)
      (pss_cons (ps_set (i := 9) sc_law.nd rfl (.inl rfl) (pe_call (ok_cutI T) (hr.mono (by decide)) (by rfl) T.d_cut.g T.d_cut.F.kp T.d_cut.b .nil pass0 (pa_cons (pv 8) (pa_cons (pe_callTy call_list_of (by rfl) T.m_list (by decide +kernel) (pa_cons (pv 4) pa_nil)) pa_nil))))
      (pss_cons (ps_set (i := 10) sc_law.nd rfl (.inl rfl) (pe_call (ok_cutI T) (hr.mono (by decide)) (by rfl) T.d_cut.g T.d_cut.F.kp T.d_cut.b .nil pass0 (pa_cons (pv 8) (pa_cons (pe_callTy call_tuple_of (by rfl) T.m_tuple (by decide +kernel) (pa_cons (pv 6) pa_nil)) pa_nil))))
      (pss_cons (ps_if (pt_cmpR (op_neD hr.units) (pv 9) (pe_lc (own := [("_law_low", 12), ("_law_high", 13)]) (g := gTup K 2 (gCons (gName 12) (gCons (gName 13) gNil))) (tt := tYes) (by rfl) sc_law.nd (pi_list (pv 4)) (blkOk_by (own := [("_law_low", 12), ("_law_high", 13)]) (N := ["_law_script", "_law_cell", "_law_well_here", "_law_size", "_law_runs_here", "_law_text_here", "_law_rest_here", "_law_everything", "_law_parts", "_law_some", "_law_others", "_law_heavy", "_law_low", "_law_high"]) (sc := defScope s_law) (by decide +kernel)) (fun _ _ _ _ _ => (pg_tup rfl (pgs_cons (pg_name (i := 12) sc_law.nd rfl (Or.inl rfl)) (pgs_cons (pg_name (i := 13) sc_law.nd rfl (Or.inl rfl)) pgs_nil)))) (fun _ _ _ _ _ => pts_nil) (fun _ _ _ _ _ => (pe_tup (pa_cons (pv 12) (pa_cons (pe_slice sl_str (pv 5) (po_some (pv 12)) (po_some (pv 13))) pa_nil))))) (nomark _))
      (pss_one (ps_ret pe_bl))
      pss_nil)
      (pss_cons (ps_if (pt_cmpR (op_neD hr.units) (pv 10) (pe_lc (own := [("_law_low", 12), ("_law_high", 13)]) (g := gTup K 2 (gCons (gName 12) (gCons (gName 13) gNil))) (tt := tYes) (by rfl) sc_law.nd (pi_list (pv 6)) (blkOk_by (own := [("_law_low", 12), ("_law_high", 13)]) (N := ["_law_script", "_law_cell", "_law_well_here", "_law_size", "_law_runs_here", "_law_text_here", "_law_rest_here", "_law_everything", "_law_parts", "_law_some", "_law_others", "_law_heavy", "_law_low", "_law_high"]) (sc := defScope s_law) (by decide +kernel)) (fun _ _ _ _ _ => (pg_tup rfl (pgs_cons (pg_name (i := 12) sc_law.nd rfl (Or.inl rfl)) (pgs_cons (pg_name (i := 13) sc_law.nd rfl (Or.inl rfl)) pgs_nil)))) (fun _ _ _ _ _ => pts_nil) (fun _ _ _ _ _ => (pe_tup (pa_cons (pv 12) (pa_cons (pe_slice sl_str (pv 5) (po_some (pv 12)) (po_some (pv 13))) pa_nil))))) (nomark _))
      (pss_one (ps_ret pe_bl))
      pss_nil)
      (pss_cons (ps_if (PW.pt (pw_or (pt_cmpR (op_neD hr.units) (pe_call (ok_joinedI T) (hr.mono (by decide)) (by rfl) T.d_joined.g T.d_joined.F.kp T.d_joined.b .nil pass0 (pa_cons (pv 9) (pa_cons (pv 10) pa_nil))) (pv 8) (nomark _)) (pw_or (pt_cmpR (op_neD hr.units) (pe_call (ok_joinedI T) (hr.mono (by decide)) (by rfl) T.d_joined.g T.d_joined.F.kp T.d_joined.b .nil pass0 (pa_cons (pv 10) (pa_cons (pv 9) pa_nil))) (pv 8) (nomark _)) (pw_or1 (pt_cmpR (op_neD hr.units) (pe_call (ok_joinedI T) (hr.mono (by decide)) (by rfl) T.d_joined.g T.d_joined.F.kp T.d_joined.b .nil pass0 (pa_cons (pe_lst pa_nil) (pa_cons (pv 9) pa_nil))) (pv 9) (nomark _))))))
      (pss_one (ps_ret pe_bl))
      pss_nil)
      (pss_cons (ps_if (PW.pt (pw_or (pt_cmpR (op_neD hr.units) (pe_call (ok_lackingI T) (hr.mono (by decide)) (by rfl) T.d_lacking.g T.d_lacking.F.kp T.d_lacking.b .nil pass0 (pa_cons (pv 7) (pa_cons (pv 8) pa_nil))) (pe_lst pa_nil) (nomark _)) (pw_or (pt_cmpR (op_neD hr.units) (pe_call (ok_lackingI T) (hr.mono (by decide)) (by rfl) T.d_lacking.g T.d_lacking.F.kp T.d_lacking.b .nil pass0 (pa_cons (pv 7) (pa_cons (pv 9) pa_nil))) (pv 6) (nomark _)) (pw_or1 (pt_cmpR (op_neD hr.units) (pe_call (ok_lackingI T) (hr.mono (by decide)) (by rfl) T.d_lacking.g T.d_lacking.F.kp T.d_lacking.b .nil pass0 (pa_cons (pe_lst pa_nil) (pa_cons (pv 9) pa_nil))) (pe_lst pa_nil) (nomark _))))))
      (pss_one (ps_ret pe_bl))
      pss_nil)
      (pss_cons (ps_if (PW.pt (pw_or (pt_cmpR (op_neD hr.units) (pe_call (ok_lackingI T) (hr.mono (by decide)) (by rfl) T.d_lacking.g T.d_lacking.F.kp T.d_lacking.b .nil pass0 (pa_cons (pv 4) (pa_cons (pv 9) pa_nil))) (pe_lst pa_nil) (nomark _)) (pw_or (pt_cmpR (op_neD hr.units) (pe_call (ok_lackingI T) (hr.mono (by decide)) (by rfl) T.d_lacking.g T.d_lacking.F.kp T.d_lacking.b .nil pass0 (pa_cons (pv 4) (pa_cons (pv 10) pa_nil))) (pv 4) (nomark _)) (pw_or1 (pt_cmpR (op_neD hr.units) (pe_call (ok_cutI T) (hr.mono (by decide)) (by rfl) T.d_cut.g T.d_cut.F.kp T.d_cut.b .nil pass0 (pa_cons (pv 8) (pa_cons (pe_lst pa_nil) pa_nil))) (pe_lst pa_nil) (nomark _))))))
      (pss_one (ps_ret pe_bl))
      pss_nil)
      (pss_cons (ps_set (i := 11) sc_law.nd rfl (.inl rfl) (pe_lst (pa_cons (pe_call (ok_weightI T) (hr.mono (by decide)) (by rfl) T.d_weight.g T.d_weight.F.kp T.d_weight.b .nil pass0 (pa_cons (pv 8) pa_nil)) (pa_cons (pe_op op_add (pe_call (ok_weightI T) (hr.mono (by decide)) (by rfl) T.d_weight.g T.d_weight.F.kp T.d_weight.b .nil pass0 (pa_cons (pv 9) pa_nil)) (pe_call (ok_weightI T) (hr.mono (by decide)) (by rfl) T.d_weight.g T.d_weight.F.kp T.d_weight.b .nil pass0 (pa_cons (pv 10) pa_nil))) (pa_cons (pe_call (ok_weightI T) (hr.mono (by decide)) (by rfl) T.d_weight.g T.d_weight.F.kp T.d_weight.b .nil pass0 (pa_cons (pe_lst pa_nil) pa_nil)) (pa_cons (pe_call (ok_weightI T) (hr.mono (by decide)) (by rfl) T.d_weight.g T.d_weight.F.kp T.d_weight.b .nil pass0 (pa_cons (pe_callTy call_tuple_of (by rfl) T.m_tuple (by decide +kernel) (pa_cons (pv 9) pa_nil)) pa_nil)) pa_nil))))))
      (pss_cons (ps_if (pt_cmpR (op_neD hr.units) (pv 11) (pe_lst (pa_cons (pv 3) (pa_cons (pv 3) (pa_cons pe_int (pa_cons (pe_callB (cr_sum rfl) (by rfl) T.m_sum (by decide +kernel) (pa_cons (pe_lc (own := [("_law_low", 12), ("_law_high", 13)]) (g := gTup K 2 (gCons (gName 12) (gCons (gName 13) gNil))) (tt := tYes) (by rfl) sc_law.nd (pi_list (pv 4)) (blkOk_by (own := [("_law_low", 12), ("_law_high", 13)]) (N := ["_law_script", "_law_cell", "_law_well_here", "_law_size", "_law_runs_here", "_law_text_here", "_law_rest_here", "_law_everything", "_law_parts", "_law_some", "_law_others", "_law_heavy", "_law_low", "_law_high"]) (sc := defScope s_law) (by decide +kernel)) (fun _ _ _ _ _ => (pg_tup rfl (pgs_cons (pg_name (i := 12) sc_law.nd rfl (Or.inl rfl)) (pgs_cons (pg_name (i := 13) sc_law.nd rfl (Or.inl rfl)) pgs_nil)))) (fun _ _ _ _ _ => pts_nil) (fun _ _ _ _ _ => (pe_op op_sub (pv 13) (pv 12)))) pa_nil)) pa_nil))))) (nomark _))
      (pss_one (ps_ret pe_bl))
      pss_nil)
      (pss_one (ps_if (PW.pt (pw_or (pt_cmpR (op_neD hr.units) (pv 8) (pe_call (ok_parts_of T) (hr.mono (by decide)) (by rfl) T.d_parts_of.g T.d_parts_of.F.kp T.d_parts_of.b .nil pass0 (pa_cons (pv 5) pa_nil)) (nomark _)) (pw_or1 (pt_cmpR (op_neD hr.units) (pv 9) (pe_call (ok_cutI T) (hr.mono (by decide)) (by rfl) T.d_cut.g T.d_cut.F.kp T.d_cut.b .nil pass0 (pa_cons (pv 8) (pa_cons (pv 4) pa_nil))) (nomark _)))))
      (pss_one (ps_ret pe_bl))
      pss_nil))))))))))))))))))))
      (pss_one (ps_ret pe_bl))), ?_⟩
    obtain ⟨ms, em, lm⟩ := cutV_map V.int ns none (some 20)
    refine ⟨.ref a, rfl, 20, rfl, a, _, rfl, hS, fun p1 h1 => ⟨(by show 3 ≤ sizeLine; decide), fun p2 h2 => ?_⟩⟩
    refine ⟨p1, p2, _, _, rfl, rfl, (same_upd h2) _ _ upd_same, upd_same, by rw [em, List.length_map]; exact szl (by show ms.length + 3 ≤ _; omega), fun p3 h3 => ?_⟩
    have ec : cutV (ns.map V.int) none (some 20) ++ [.int 0, .int 3, .int 16] = (ms ++ [0, 3, 16]).map V.int := by
      rw [em, List.map_append]
      rfl
    rw [ec]
    refine ⟨p3, rfl, ⟨_, SqL.of upd_same⟩, for_list (K := K) (a := p3) (xs := (ms ++ [0, 3, 16]).map V.int) (fun i σ H' => H' p3 = some (.lst ((ms ++ [0, 3, 16]).map V.int)) ∧ ∃ y1 y2 y3 y4 y5 y6 y7 y8 y9 y10 y11, σ = [some (.ref a), y1, y2, y3, y4, y5, y6, y7, y8, y9, y10, y11, none, none])
      ⟨upd_same, none, none, none, none, none, none, none, none, none, none, none, rfl⟩ (fun i σ H' _ pv => SqL.of pv.1) ?_ ?_⟩
    · rintro i x σ H0 hx ⟨e30, y1, y2, y3, y4, y5, y6, y7, y8, y9, y10, y11, rfl⟩
      obtain ⟨n, rfl⟩ := int_at hx
      refine ⟨.int n, rfl, n, rfl, fun W wa wb wc hW => ?_⟩
      have hI0 : IsW (upd H0 W (W3 wa wb wc)) W := ⟨wa, wb, wc, upd_same⟩
      have nWp : p3 ≠ W := ne_of_none e30 hW
      have e30' : (upd H0 W (W3 wa wb wc)) p3 = some (.lst ((ms ++ [0, 3, 16]).map V.int)) := (same_upd hW) _ _ e30
      generalize hsc : (ms ++ [0, 3, 16]).map V.int = sc at *
      -- size
      refine ⟨.ref W, rfl, W, 20, rfl, by decide, by decide, hI0, fun r1 H1 r10 r11 x1 => ⟨.ref W, rfl, W, 201, rfl, by decide, by decide, x1.well, fun r2 H2 r20 r21 x2 => ⟨(by show 5 ≤ sizeLine; decide), fun p5 h5 => ?_⟩⟩⟩
      have x5 := (x1.trans x2).new (o := .lst (([0, 1, r1, r2, 200] : List Int).map V.int)) h5
      refine ⟨.ref W, rfl, W, 5, rfl, by decide, by decide, x5.well, fun r6 H6 r60 r61 x6 => ?_⟩
      obtain ⟨N, hN, eN⟩ := ints_at (ns := [0, 1, r1, r2, 200]) r60 r61
      have zN : 0 ≤ N ∧ N ≤ 200 := by
        simp only [List.mem_cons, List.not_mem_nil, or_false] at hN
        rcases hN with rfl | rfl | rfl | rfl | rfl <;> omega
      refine ⟨p5, _, r6, _, rfl, rfl, SqL.of (x6.keep p5 _ (x2.well.ne h5).symm upd_same), eN, ?_⟩
      have x06 := x5.trans x6
      -- runs, text, rest
      refine ⟨.ref W, rfl, _, rfl, W, N, rfl, zN.1, zN.2, x6.well, fun r xs R H7 nr x7 er7 hx7 cR bR lR => ?_⟩
      have nWr : W ≠ r := x6.well.ne nr
      have o7 : Ok7 N R := ⟨zN.1, zN.2, cR, bR, lR⟩
      refine ⟨.ref W, rfl, _, rfl, W, N, rfl, zN.1, zN.2, x7.well, fun z H8 lz az x8 => ?_⟩
      have er8 := x8.keep _ _ nWr.symm er7
      have hx8 := ps2s_wx x7.well x8 hx7
      have e38 := ((x06.trans x7).trans x8).keep _ _ nWp e30'
      refine ⟨.ref r, rfl, _, rfl, r, xs, R, N, rfl, er8, hx8, by omega, fun u us H9 nu s9 hu hus => ?_⟩
      have R9 : LS H9 r R := ⟨xs, s9 _ _ er8, ps2s_mono s9 hx8⟩
      have U9 : LS H9 u (unt 0 N R) := ⟨us, hu, hus⟩
      have e39 := s9 _ _ e38
      obtain ⟨rU, vU⟩ := o7.unt
      have rE := rowE zN.1 zN.2
      have rR := o7.row
      have vE := covE N
      have sumU := unt_sum N R 0 cR bR zN.1
      have sumE : lenS (EE N) = N := by
        unfold EE
        split
        · show N - 0 + 0 = N
          omega
        · rename_i h'
          have h2 : ¬ N > 0 := fun z => h' (decide_eq_true z)
          show (0 : Int) = N
          omega
      have hP := pOf_sgn lz
      have aF := asc_partsF (f := sgn z) (fun x => sgn_asc az x)
      have cE : ∀ u ∈ EE N, 0 ≤ u.1 ∧ u.1 ≤ u.2 ∧ u.2 ≤ (z.length : Int) := fun u hu => by
        have h1 := rng_of (U := EE N) (lo := 0) (hi := N) (fun x hx => (vE x).mp hx) hu (rE.can.2 u hu)
        have h2 := rE.can.2 u hu
        omega
      have cutR : ∀ u ∈ R, cutS z (some u.1) (some u.2) = txtF (sgn z) u.1 u.2 := fun u hu => by
        have h1 := bR u hu
        have h2 := cR.2 u hu
        exact cut_sgn h1.1 (by omega) (by omega)
      have cutU : ∀ u ∈ unt 0 N R, cutS z (some u.1) (some u.2) = txtF (sgn z) u.1 u.2 := fun u hu => by
        have h2 := rU.can.2 u hu
        have h1 := rng_of (U := unt 0 N R) (lo := 0) (hi := N) (fun x hx => ((vU x).mp hx).1) hu h2
        exact cut_sgn h1.1 (by omega) (by omega)
      have lU : (unt 0 N R).length ≤ 600 := rU.len
      have lzz : z.length ≤ 200 := by omega
      generalize unt 0 N R = U at *
      generalize hf : sgn z = f at *
      -- everything
      refine ⟨_, rfl, (by show 2 ≤ sizeLine; decide), fun t ht => ⟨(by show 1 ≤ sizeLine; decide), fun l hl => ⟨_, rfl, N, 0, rfl, rfl, .inr ⟨_, rfl, l, _, _, rfl, rfl, upd_same, by split <;> decide, by split <;> decide, by show 1 * _ ≤ sizeLine; split <;> decide, fun e he => ?_⟩⟩⟩⟩
      have t10 : Same H9 _ := ((same_upd (o := .tup [.int 0, .int N]) ht).trans (same_upd (o := .lst [.ref t]) hl)).trans (same_upd (o := .lst (List.replicate (if decide (N > 0) = true then (1 : Int) else 0).toNat [V.ref t]).flatten) he)
      have E10 : LS (upd (upd (upd H9 t (.tup [.int 0, .int N])) l (.lst [.ref t])) e (.lst (List.replicate (if decide (N > 0) = true then (1 : Int) else 0).toNat [V.ref t]).flatten)) e (EE N) := by
        refine ⟨_, upd_same, ?_⟩
        rw [rep_one]
        unfold EE
        split
        · exact .cons ⟨t, rfl, (same_upd he) _ _ ((same_upd hl) _ _ upd_same)⟩ .nil
        · exact .nil
      have R10 := R9.mono t10
      have U10 := U9.mono t10
      have e310 := t10 _ _ e39
      generalize upd (upd (upd H9 t (.tup [.int 0, .int N])) l (.lst [.ref t])) e (.lst (List.replicate (if decide (N > 0) = true then (1 : Int) else 0).toNat [V.ref t]).flatten) = H10 at *
      -- parts
      refine ⟨_, rfl, z, rfl, fun pp pl H11 npp s11 hpp hpl => ?_⟩
      have P11 : LP H11 pp (partsF f (EE N)) := ⟨pl, hpp, hP ▸ hpl⟩
      refine ⟨.ref pp, rfl, .ref pp, .ty "list", _, _, true, rfl, .ty "list", .base (.lst hpp), kit2 (by decide +kernel), true, rfl, ?_⟩
      refine ⟨.ref pp, rfl, _, rfl, (by show 2 ≤ sizeLine; decide), fun t2 ht2 => ⟨(by show 1 ≤ sizeLine; decide), fun l2 hl2 => ⟨_, rfl, N, 0, rfl, rfl, .inr ⟨_, rfl, l2, _, _, rfl, rfl, upd_same, by split <;> decide, by split <;> decide, by show 1 * _ ≤ sizeLine; split <;> decide, fun e2 he2 => ?_⟩⟩⟩⟩
      have t12 : Same H11 _ := ((same_upd (o := .tup [.int 0, .str z]) ht2).trans (same_upd (o := .lst [.ref t2]) hl2)).trans (same_upd (o := .lst (List.replicate (if decide (N > 0) = true then (1 : Int) else 0).toNat [V.ref t2]).flatten) he2)
      have E12 : LP (upd (upd (upd H11 t2 (.tup [.int 0, .str z])) l2 (.lst [.ref t2])) e2 (.lst (List.replicate (if decide (N > 0) = true then (1 : Int) else 0).toNat [V.ref t2]).flatten)) e2 (partsF f (EE N)) := by
        refine ⟨_, upd_same, ?_⟩
        rw [rep_one]
        unfold EE
        split
        · have ez : txtF f 0 N = z := by rw [← hf, ← lz]; exact txt_sgn z
          refine .cons ⟨t2, rfl, ?_⟩ .nil
          show _ = some (HO.tup [.int 0, .str (txtF f 0 N)])
          rw [ez]
          exact (same_upd he2) _ _ ((same_upd hl2) _ _ upd_same)
        · exact .nil
      have P12 := P11.mono t12
      have E12' := (E10.mono s11).mono t12
      have R12 := (R10.mono s11).mono t12
      have U12 := (U10.mono s11).mono t12
      have e312 := t12 _ _ (s11 _ _ e310)
      generalize upd (upd (upd H11 t2 (.tup [.int 0, .str z])) l2 (.lst [.ref t2])) e2 (.lst (List.replicate (if decide (N > 0) = true then (1 : Int) else 0).toNat [V.ref t2]).flatten) = H12 at *
      refine ne_lp P12 E12 (aF _) ⟨false, rfl, ?_⟩
      -- some, others
      obtain ⟨rx, er12, hr12⟩ := id R12
      refine ⟨.ref pp, rfl, .ref r, rfl, r, rx, rfl, .inl (SqL.of er12), fun l3 hl3 => ?_⟩
      have s13 := same_upd (o := .lst rx) hl3
      refine cut_of (f := f) (A := EE N) (B := R) (C := R) (lo := 0) rfl (P12.mono s13).ip ⟨rx, .inl upd_same, ps2s_mono s13 hr12⟩ rE cR (by omega) (meet_eq rE.can cR cR fun x => ⟨fun c => ⟨(vE x).mpr (o7.sub c), c⟩, fun c => c.2⟩) fun so H14 nso s14 S14 => ?_
      have t14 := s13.trans s14
      obtain ⟨ux, eu14, hu14⟩ := U12.mono t14
      refine ⟨.ref pp, rfl, .ref u, rfl, u, ux, rfl, .inl ⟨SqL.of eu14, fun l4 hl4 => ?_⟩⟩
      have s15 := same_upd (o := .tup ux) hl4
      refine cut_of (f := f) (A := EE N) (B := U) (C := U) (lo := 0) rfl ((P12.mono t14).mono s15).ip ⟨ux, .inr upd_same, ps2s_mono s15 hu14⟩ rE rU.can lU (meet_eq rE.can rU.can rU.can fun x => ⟨fun c => ⟨(vE x).mpr ((vU x).mp c).1, c⟩, fun c => c.2⟩) fun ot H16 not s16 O16 => ?_
      have t16 := (t14.trans s15).trans s16
      have F : All7 H16 p3 r u e pp so ot sc f R U (EE N) := ⟨t16 _ _ e312, R12.mono t16, U12.mono t16, E12'.mono t16, P12.mono t16, S14.mono (s15.trans s16), O16⟩
      -- some by slices
      obtain ⟨ra, era, hra⟩ := id F.r
      have lra : ra.length = R.length := (Paired.length hra).trans (List.length_map ..)
      refine ⟨.ref so, rfl, .ref r, rfl, r, rfl, ⟨_, SqL.of era⟩, fun D hD => ?_⟩
      refine lc_list (K := K) (a := r) (xs := ra) (fun i H' => Same H16 H' ∧ ∃ zs, H' D = some (.lst zs) ∧ Paired (PT2 H') zs (partsF f (R.take i))) ⟨same_upd hD, [], upd_same, .nil⟩ (fun i H' _ pv => SqL.of (pv.1 _ _ era)) ?_ ?_
      · rintro i x H17 hi ⟨s17, zs, eD, hzs⟩
        obtain ⟨sp, hsp, t', rfl, ht'⟩ := paired_at hra hi
        rw [List.getElem?_map] at hsp
        cases hk : R[i]? with
        | none =>
          rw [hk] at hsp
          cases hsp
        | some v =>
          rw [hk] at hsp
          cases hsp
          have hil : i < R.length := (List.getElem?_eq_some_iff.mp hk).1
          refine ⟨t', _, rfl, SqT.of (s17 _ _ ht'), rfl, _, _, rfl, _, _, rfl, rfl, rfl, _, rfl, _, rfl, _, rfl, _, rfl, _, rfl, _, rfl, _, rfl, szl (by omega), (by show 2 ≤ sizeLine; decide), fun q2 hq2 => ?_⟩
          have s18 := same_upd (o := .tup [.int v.1, .str (cutS z (some v.1) (some v.2))]) hq2
          have eD2 := s18 _ _ eD
          have hzl := Paired.length hzs
          unfold partsF at hzl
          rw [List.length_map, List.length_take] at hzl
          refine ⟨zs, eD2, szlt (by omega), same_mut (s17.trans s18) hD, zs ++ [.ref q2], upd_same, ?_⟩
          have eq2 : PT2 (upd H17 q2 (.tup [.int v.1, .str (cutS z (some v.1) (some v.2))])) (.ref q2) (v.1, txtF f v.1 v.2) := by
            rw [← cutR v (List.mem_of_getElem? hk)]
            exact ⟨q2, rfl, upd_same⟩
          have ep : partsF f (R.take (i + 1)) = partsF f (R.take i) ++ [(v.1, txtF f v.1 v.2)] := by
            unfold partsF
            rw [List.take_add_one, hk, List.map_append]
            rfl
          rw [ep]
          exact pt2s_upd eD2 (fun _ z => by cases z) (paired_app (pt2s_mono s18 hzs) (.cons eq2 .nil))
      · rintro H17 ⟨s17, zs, eD, hzs⟩
        rw [lra, List.take_length] at hzs
        have F17 := F.mono s17
        refine ne_lp F17.so ⟨zs, eD, hzs⟩ (aF _) ⟨false, rfl, ?_⟩
        clear F hra era
        -- others by slices
        obtain ⟨ua, eua, hua⟩ := id F17.u
        have lua : ua.length = U.length := (Paired.length hua).trans (List.length_map ..)
        refine ⟨.ref ot, rfl, .ref u, rfl, u, rfl, ⟨_, SqL.of eua⟩, fun D2 hD2 => ?_⟩
        refine lc_list (K := K) (a := u) (xs := ua) (fun i H' => Same H17 H' ∧ ∃ zs, H' D2 = some (.lst zs) ∧ Paired (PT2 H') zs (partsF f (U.take i))) ⟨same_upd hD2, [], upd_same, .nil⟩ (fun i H' _ pv => SqL.of (pv.1 _ _ eua)) ?_ ?_
        · rintro i x H18 hi ⟨s18, zs, eD, hzs⟩
          obtain ⟨sp, hsp, t', rfl, ht'⟩ := paired_at hua hi
          rw [List.getElem?_map] at hsp
          cases hk : U[i]? with
          | none =>
            rw [hk] at hsp
            cases hsp
          | some v =>
            rw [hk] at hsp
            cases hsp
            have hil : i < U.length := (List.getElem?_eq_some_iff.mp hk).1
            refine ⟨t', _, rfl, SqT.of (s18 _ _ ht'), rfl, _, _, rfl, _, _, rfl, rfl, rfl, _, rfl, _, rfl, _, rfl, _, rfl, _, rfl, _, rfl, _, rfl, szl (by omega), (by show 2 ≤ sizeLine; decide), fun q2 hq2 => ?_⟩
            have s19 := same_upd (o := .tup [.int v.1, .str (cutS z (some v.1) (some v.2))]) hq2
            have eD2 := s19 _ _ eD
            have hzl := Paired.length hzs
            unfold partsF at hzl
            rw [List.length_map, List.length_take] at hzl
            refine ⟨zs, eD2, szlt (by omega), same_mut (s18.trans s19) hD2, zs ++ [.ref q2], upd_same, ?_⟩
            have eq2 : PT2 (upd H18 q2 (.tup [.int v.1, .str (cutS z (some v.1) (some v.2))])) (.ref q2) (v.1, txtF f v.1 v.2) := by
              rw [← cutU v (List.mem_of_getElem? hk)]
              exact ⟨q2, rfl, upd_same⟩
            have ep : partsF f (U.take (i + 1)) = partsF f (U.take i) ++ [(v.1, txtF f v.1 v.2)] := by
              unfold partsF
              rw [List.take_add_one, hk, List.map_append]
              rfl
            rw [ep]
            exact pt2s_upd eD2 (fun _ z => by cases z) (paired_app (pt2s_mono s19 hzs) (.cons eq2 .nil))
        · rintro H18 ⟨s18, zs2, eD2, hzs2⟩
          rw [lua, List.take_length] at hzs2
          have F18 := F17.mono s18
          refine ne_lp F18.ot ⟨zs2, eD2, hzs2⟩ (aF _) ⟨false, rfl, ?_⟩
          clear F17 hua eua
          -- put together
          refine ⟨.ref so, rfl, .ref ot, rfl, join_of (f := f) (lo := 0) rfl F18.so.ip F18.ot.ip rR rU rE.can (fun x => ?_) fun j1 H19 _ s19 J1 => ?_⟩
          · rw [vE, vU]
            constructor
            · intro c
              by_cases k : cov R x
              · exact .inl k
              · exact .inr ⟨c, k⟩
            · rintro (c | c)
              · exact o7.sub c
              · exact c.1
          have F19 := F18.mono s19
          refine ⟨.ref pp, rfl, ne_lp J1 F19.p (aF _) ⟨false, rfl, ?_⟩⟩
          refine ⟨.ref ot, rfl, .ref so, rfl, join_of (f := f) (lo := 0) rfl F19.ot.ip F19.so.ip rU rR rE.can (fun x => ?_) fun j2 H20 _ s20 J2 => ?_⟩
          · rw [vE, vU]
            constructor
            · intro c
              by_cases k : cov R x
              · exact .inr k
              · exact .inl ⟨c, k⟩
            · rintro (c | c)
              · exact c.1
              · exact o7.sub c
          have F20 := F19.mono s20
          refine ⟨.ref pp, rfl, ne_lp J2 F20.p (aF _) ⟨false, rfl, ?_⟩⟩
          refine ⟨Nat.zero_le _, fun l5 hl5 => ?_⟩
          have s21 := same_upd (o := .lst []) hl5
          have F21 := F20.mono s21
          refine ⟨.ref so, rfl, join_of (f := f) (A := []) (lo := 0) rfl ⟨[], .inl upd_same, .nil⟩ F21.so.ip row_nil rR cR (fun x => ⟨.inr, fun c => c.elim (fun c => absurd c cov_nil) id⟩) fun j3 H22 _ s22 J3 => ?_⟩
          have F22 := F21.mono s22
          refine ⟨.ref so, rfl, ne_lp J3 F22.so (aF _) ⟨false, rfl, ?_⟩⟩
          clear F18 F19 F20 F21
          -- what lacks
          refine ⟨.ref e, rfl, .ref pp, rfl, lack_of (f := f) (lo := 0) rfl F22.e.iq F22.p.ip rE (by have := rE.len; omega) (lak_eq (C := []) rE rE can_nil fun x => ⟨fun c => absurd c cov_nil, fun c => absurd c.1 c.2⟩) fun k1 H23 _ s23 L1 => ⟨Nat.zero_le _, fun l6 hl6 => ?_⟩⟩
          have s24 := same_upd (o := .lst []) hl6
          refine ne_ls (L1.mono s24) (LS.nil upd_same) ⟨false, rfl, ?_⟩
          have F24 := (F22.mono s23).mono s24
          refine ⟨.ref e, rfl, .ref so, rfl, lack_of (f := f) (lo := 0) rfl F24.e.iq F24.so.ip rR (by have := rE.len; omega) (lak_eq (C := U) rE rR rU.can fun x => by rw [vU, vE]) fun k2 H25 _ s25 L2 => ?_⟩
          have F25 := F24.mono s25
          refine ⟨.ref u, rfl, ne_ls L2 F25.u ⟨false, rfl, ?_⟩⟩
          refine ⟨Nat.zero_le _, fun l7 hl7 => ?_⟩
          have s26 := same_upd (o := .lst []) hl7
          have F26 := F25.mono s26
          refine ⟨.ref so, rfl, lack_of (f := f) (lo := 0) (C := []) rfl (LS.nil upd_same).iq F26.so.ip rR (Nat.zero_le _) (if_pos rfl) fun k3 H27 _ s27 L3 => ⟨Nat.zero_le _, fun l8 hl8 => ?_⟩⟩
          have s28 := same_upd (o := .lst []) hl8
          refine ne_ls (L3.mono s28) (LS.nil upd_same) ⟨false, rfl, ?_⟩
          have F28 := (F26.mono s27).mono s28
          clear F22 F24 F25 F26
          refine ⟨.ref r, rfl, .ref so, rfl, lack_of (f := f) (lo := 0) rfl F28.r.iq F28.so.ip rR rR.len (lak_eq (C := []) rR rR can_nil fun x => ⟨fun c => absurd c cov_nil, fun c => absurd c.1 c.2⟩) fun k4 H29 _ s29 L4 => ⟨Nat.zero_le _, fun l9 hl9 => ?_⟩⟩
          have s30 := same_upd (o := .lst []) hl9
          refine ne_ls (L4.mono s30) (LS.nil upd_same) ⟨false, rfl, ?_⟩
          have F30 := (F28.mono s29).mono s30
          refine ⟨.ref r, rfl, .ref ot, rfl, lack_of (f := f) (lo := 0) rfl F30.r.iq F30.ot.ip rU rR.len (lak_eq (C := R) rR rU cR fun x => ⟨fun c => ⟨c, fun d => ((vU x).mp d).2 c⟩, fun c => c.1⟩) fun k5 H31 _ s31 L5 => ?_⟩
          have F31 := F30.mono s31
          refine ⟨.ref r, rfl, ne_ls L5 F31.r ⟨false, rfl, ?_⟩⟩
          refine ⟨.ref pp, rfl, Nat.zero_le _, fun l10 hl10 => ?_⟩
          have s32 := same_upd (o := .lst []) hl10
          have F32 := F31.mono s32
          refine cut_of (f := f) (B := []) (C := []) (lo := 0) rfl F32.p.ip (LS.nil upd_same).iq rE can_nil (Nat.zero_le _) (meet_eq rE.can can_nil can_nil fun x => ⟨fun c => absurd c cov_nil, fun c => absurd c.2 cov_nil⟩) fun k6 H33 _ s33 C6 => ⟨Nat.zero_le _, fun l11 hl11 => ?_⟩
          have s34 := same_upd (o := .lst []) hl11
          refine ne_lp (C6.mono s34) (LP.nil upd_same) (fun _ h => nomatch h) ⟨false, rfl, ?_⟩
          have F34 := (F32.mono s33).mono s34
          clear F28 F30 F31 F32
          -- heavy
          refine ⟨.ref pp, rfl, weight_of (f := f) (lo := 0) rfl F34.p.ip rE fun H35 s35 => ?_⟩
          have F35 := F34.mono s35
          refine ⟨.ref so, rfl, weight_of (f := f) (lo := 0) rfl F35.so.ip rR fun H36 s36 => ?_⟩
          have F36 := F35.mono s36
          refine ⟨.ref ot, rfl, weight_of (f := f) (lo := 0) rfl F36.ot.ip rU fun H37 s37 => ⟨_, _, rfl, rfl, Nat.zero_le _, fun l12 hl12 => ?_⟩⟩
          have s38 := same_upd (o := .lst []) hl12
          have F38 := (F36.mono s37).mono s38
          refine weight_of (f := f) (A := []) (lo := 0) rfl ⟨[], .inl upd_same, .nil⟩ row_nil fun H39 s39 => ?_
          have F39 := F38.mono s39
          obtain ⟨sx, es39, hs39⟩ := id F39.so
          refine ⟨.ref so, rfl, so, sx, rfl, .inl ⟨SqL.of es39, fun l13 hl13 => ?_⟩⟩
          have s40 := same_upd (o := .tup sx) hl13
          refine weight_of (f := f) (A := R) (lo := 0) rfl ⟨sx, .inr upd_same, pt2s_mono s40 hs39⟩ rR fun H41 s41 => ⟨(by show 4 ≤ sizeLine; decide), fun hv hhv => ?_⟩
          have ehv : (upd H41 hv (.lst [.int (lenS (EE N)), .int (lenS R + lenS U), .int (lenS []), .int (lenS R)])) hv = some (.lst [.int (lenS (EE N)), .int (lenS R + lenS U), .int (lenS []), .int (lenS R)]) := upd_same
          have s42 := same_upd (o := .lst [.int (lenS (EE N)), .int (lenS R + lenS U), .int (lenS []), .int (lenS R)]) hhv
          have F42 := ((F39.mono s40).mono s41).mono s42
          clear F34 F35 F36 F38 F39 es39 hs39
          obtain ⟨rb, erb, hrb⟩ := id F42.r
          have lrb : rb.length = R.length := (Paired.length hrb).trans (List.length_map ..)
          refine ⟨.ref hv, rfl, _, rfl, _, rfl, .ref r, rfl, r, rfl, ⟨_, SqL.of erb⟩, fun D3 hD3 => ?_⟩
          refine lc_list (K := K) (a := r) (xs := rb) (fun i H' => Same (upd H41 hv (.lst [.int (lenS (EE N)), .int (lenS R + lenS U), .int (lenS []), .int (lenS R)])) H' ∧ H' D3 = some (.lst (((R.take i).map fun v => v.2 - v.1).map V.int))) ⟨same_upd hD3, upd_same⟩ (fun i H' _ pv => SqL.of (pv.1 _ _ erb)) ?_ ?_
          · rintro i x H43 hi ⟨s43, eD3⟩
            obtain ⟨sp, hsp, t', rfl, ht'⟩ := paired_at hrb hi
            rw [List.getElem?_map] at hsp
            cases hk : R[i]? with
            | none =>
              rw [hk] at hsp
              cases hsp
            | some v =>
              rw [hk] at hsp
              cases hsp
              have hil : i < R.length := (List.getElem?_eq_some_iff.mp hk).1
              refine ⟨t', _, rfl, SqT.of (s43 _ _ ht'), rfl, _, _, rfl, _, _, rfl, rfl, rfl, _, rfl, _, rfl, _, _, rfl, rfl, _, eD3, ?_, same_mut s43 hD3, ?_⟩
              · rw [List.length_map, List.length_map, List.length_take]
                exact szlt (by omega)
              · rw [upd_same, take_map (fun v : Int × Int => v.2 - v.1) hk, List.map_append]
                rfl
          · rintro H43 ⟨s43, eD3⟩
            rw [lrb, List.take_length] at eD3
            refine ⟨D3, _, rfl, SqL.of eD3, (by show 4 ≤ sizeLine; decide), fun l14 hl14 => ?_⟩
            have s44 := same_upd (o := .lst [.int N, .int N, .int 0, .int (R.map fun v => v.2 - v.1).sum]) hl14
            have F44 := (F42.mono s43).mono s44
            have ehv44 := s44 _ _ (s43 _ _ ehv)
            have sumU' : lenS R + lenS U = N := by omega
            rw [sumE, sumU', show lenS [] = 0 from rfl] at ehv44
            refine ne_same (d := .list [.int N, .int N, .int 0, .int (lenS R)]) (.lst (SqL.of ehv44) (.cons (.int _) (.cons (.int _) (.cons (.int _) (.cons (.int _) .nil))))) (.lst (SqL.of upd_same) (.cons (.int _) (.cons (.int _) (.cons (.int _) (.cons (.int _) .nil))))) (by simp [SeqAt.shaped, PyData.canLay0, PyData.canLayAll0, PyData.depth, PyData.depthAll]) ⟨false, rfl, ?_⟩
            -- told again
            refine ⟨.ref pp, rfl, _, rfl, z, rfl, fun pp2 pl2 H45 _ s45 hpp2 hpl2 => ?_⟩
            have F45 := F44.mono s45
            refine ne_lp F45.p ⟨pl2, hpp2, hP ▸ hpl2⟩ (aF _) ⟨false, rfl, ?_⟩
            refine ⟨.ref so, rfl, .ref pp, rfl, .ref r, rfl, cut_of (f := f) (A := EE N) (B := R) (C := R) (lo := 0) rfl F45.p.ip F45.r.iq rE cR (by omega) (meet_eq rE.can cR cR fun x => ⟨fun c => ⟨(vE x).mpr (o7.sub c), c⟩, fun c => c.2⟩) fun k7 H46 _ s46 C7 => ?_⟩
            have F46 := F45.mono s46
            refine ne_lp F46.so C7 (aF _) ⟨false, rfl, ?_⟩
            exact ⟨F46.sc, _, _, _, _, _, _, _, _, _, _, _, rfl⟩
    · rintro σ H1 ⟨e3, y1, y2, y3, y4, y5, y6, y7, y8, y9, y10, y11, rfl⟩
      exact q _
end
theorem all_mk {l : PySem.W.OpenLaw} {w : World} {K : PySem.W.Frag} {h : Heap} {mg : Str → Option Value} {fa : Addr} (X : K.In h) (G : h.Ns mainGlobals mg) (hfa : mg "law" = some (.ref fa))
    {f0 : Addr} {od0 an0 : Option Addr} {sl0 : Array (Option Value)} {oc0 kV0 dc0 pm0 cd0 ct0 : Value}
    (a0 : PySem.W.nsIn K mainGlobals "parts_of" = some (some (.ref f0))) (l0 : K.lookup f0 = some ⟨oc0, od0, .func (PySem.W.fnOf "parts_of" "parts_of" (defArgs s_parts_of) (defBody s_parts_of) (defScope s_parts_of) .none kV0 dc0 pm0 an0 cd0 ct0), sl0⟩) (c0 : PySem.W.codeIn K cd0 "parts_of" = true) (k0 : PySem.W.keepIn K (.ref f0) = true)
    {f1 : Addr} {od1 an1 : Option Addr} {sl1 : Array (Option Value)} {oc1 kV1 dc1 pm1 cd1 ct1 : Value}
    (a1 : PySem.W.nsIn K mainGlobals "weight" = some (some (.ref f1))) (l1 : K.lookup f1 = some ⟨oc1, od1, .func (PySem.W.fnOf "weight" "weight" (defArgs s_weight) (defBody s_weight) (defScope s_weight) .none kV1 dc1 pm1 an1 cd1 ct1), sl1⟩) (c1 : PySem.W.codeIn K cd1 "weight" = true) (k1 : PySem.W.keepIn K (.ref f1) = true)
    {f2 : Addr} {od2 an2 : Option Addr} {sl2 : Array (Option Value)} {oc2 kV2 dc2 pm2 cd2 ct2 : Value}
    (a2 : PySem.W.nsIn K mainGlobals "told_by" = some (some (.ref f2))) (l2 : K.lookup f2 = some ⟨oc2, od2, .func (PySem.W.fnOf "told_by" "told_by" (defArgs s_told_by) (defBody s_told_by) (defScope s_told_by) .none kV2 dc2 pm2 an2 cd2 ct2), sl2⟩) (c2 : PySem.W.codeIn K cd2 "told_by" = true) (k2 : PySem.W.keepIn K (.ref f2) = true)
    {f3 : Addr} {od3 an3 : Option Addr} {sl3 : Array (Option Value)} {oc3 kV3 dc3 pm3 cd3 ct3 : Value}
    (a3 : PySem.W.nsIn K mainGlobals "untold_by" = some (some (.ref f3))) (l3 : K.lookup f3 = some ⟨oc3, od3, .func (PySem.W.fnOf "untold_by" "untold_by" (defArgs s_untold_by) (defBody s_untold_by) (defScope s_untold_by) .none kV3 dc3 pm3 an3 cd3 ct3), sl3⟩) (c3 : PySem.W.codeIn K cd3 "untold_by" = true) (k3 : PySem.W.keepIn K (.ref f3) = true)
    {f4 : Addr} {od4 an4 : Option Addr} {sl4 : Array (Option Value)} {oc4 kV4 dc4 pm4 cd4 ct4 : Value}
    (a4 : PySem.W.nsIn K mainGlobals "meetings" = some (some (.ref f4))) (l4 : K.lookup f4 = some ⟨oc4, od4, .func (PySem.W.fnOf "meetings" "meetings" (defArgs s_meetings) (defBody s_meetings) (defScope s_meetings) .none kV4 dc4 pm4 an4 cd4 ct4), sl4⟩) (c4 : PySem.W.codeIn K cd4 "meetings" = true) (k4 : PySem.W.keepIn K (.ref f4) = true)
    {f5 : Addr} {od5 an5 : Option Addr} {sl5 : Array (Option Value)} {oc5 kV5 dc5 pm5 cd5 ct5 : Value}
    (a5 : PySem.W.nsIn K mainGlobals "lacking" = some (some (.ref f5))) (l5 : K.lookup f5 = some ⟨oc5, od5, .func (PySem.W.fnOf "lacking" "lacking" (defArgs s_lacking) (defBody s_lacking) (defScope s_lacking) .none kV5 dc5 pm5 an5 cd5 ct5), sl5⟩) (c5 : PySem.W.codeIn K cd5 "lacking" = true) (k5 : PySem.W.keepIn K (.ref f5) = true)
    {f6 : Addr} {od6 an6 : Option Addr} {sl6 : Array (Option Value)} {oc6 kV6 dc6 pm6 cd6 ct6 : Value}
    (a6 : PySem.W.nsIn K mainGlobals "cut" = some (some (.ref f6))) (l6 : K.lookup f6 = some ⟨oc6, od6, .func (PySem.W.fnOf "cut" "cut" (defArgs s_cut) (defBody s_cut) (defScope s_cut) .none kV6 dc6 pm6 an6 cd6 ct6), sl6⟩) (c6 : PySem.W.codeIn K cd6 "cut" = true) (k6 : PySem.W.keepIn K (.ref f6) = true)
    {f7 : Addr} {od7 an7 : Option Addr} {sl7 : Array (Option Value)} {oc7 kV7 dc7 pm7 cd7 ct7 : Value}
    (a7 : PySem.W.nsIn K mainGlobals "joined" = some (some (.ref f7))) (l7 : K.lookup f7 = some ⟨oc7, od7, .func (PySem.W.fnOf "joined" "joined" (defArgs s_joined) (defBody s_joined) (defScope s_joined) .none kV7 dc7 pm7 an7 cd7 ct7), sl7⟩) (c7 : PySem.W.codeIn K cd7 "joined" = true) (k7 : PySem.W.keepIn K (.ref f7) = true)
    {f8 : Addr} {od8 an8 : Option Addr} {sl8 : Array (Option Value)} {oc8 kV8 dc8 pm8 cd8 ct8 : Value}
    (a8 : PySem.W.nsIn K mainGlobals "_law_well" = some (some (.ref f8))) (l8 : K.lookup f8 = some ⟨oc8, od8, .func (PySem.W.fnOf "_law_well" "_law_well" (defArgs s_law_well) (defBody s_law_well) (defScope s_law_well) .none kV8 dc8 pm8 an8 cd8 ct8), sl8⟩) (c8 : PySem.W.codeIn K cd8 "_law_well" = true) (k8 : PySem.W.keepIn K (.ref f8) = true)
    {f9 : Addr} {od9 an9 : Option Addr} {sl9 : Array (Option Value)} {oc9 kV9 dc9 pm9 cd9 ct9 : Value}
    (a9 : PySem.W.nsIn K mainGlobals "_law_draw" = some (some (.ref f9))) (l9 : K.lookup f9 = some ⟨oc9, od9, .func (PySem.W.fnOf "_law_draw" "_law_draw" (defArgs s_law_draw) (defBody s_law_draw) (defScope s_law_draw) .none kV9 dc9 pm9 an9 cd9 ct9), sl9⟩) (c9 : PySem.W.codeIn K cd9 "_law_draw" = true) (k9 : PySem.W.keepIn K (.ref f9) = true)
    {f10 : Addr} {od10 an10 : Option Addr} {sl10 : Array (Option Value)} {oc10 kV10 dc10 pm10 cd10 ct10 : Value}
    (a10 : PySem.W.nsIn K mainGlobals "_law_text" = some (some (.ref f10))) (l10 : K.lookup f10 = some ⟨oc10, od10, .func (PySem.W.fnOf "_law_text" "_law_text" (defArgs s_law_text) (defBody s_law_text) (defScope s_law_text) .none kV10 dc10 pm10 an10 cd10 ct10), sl10⟩) (c10 : PySem.W.codeIn K cd10 "_law_text" = true) (k10 : PySem.W.keepIn K (.ref f10) = true)
    {f11 : Addr} {od11 an11 : Option Addr} {sl11 : Array (Option Value)} {oc11 kV11 dc11 pm11 cd11 ct11 : Value}
    (a11 : PySem.W.nsIn K mainGlobals "_law_runs" = some (some (.ref f11))) (l11 : K.lookup f11 = some ⟨oc11, od11, .func (PySem.W.fnOf "_law_runs" "_law_runs" (defArgs s_law_runs) (defBody s_law_runs) (defScope s_law_runs) .none kV11 dc11 pm11 an11 cd11 ct11), sl11⟩) (c11 : PySem.W.codeIn K cd11 "_law_runs" = true) (k11 : PySem.W.keepIn K (.ref f11) = true)
    {f12 : Addr} {od12 an12 : Option Addr} {sl12 : Array (Option Value)} {oc12 kV12 dc12 pm12 cd12 ct12 : Value}
    (a12 : PySem.W.nsIn K mainGlobals "_law_rest" = some (some (.ref f12))) (l12 : K.lookup f12 = some ⟨oc12, od12, .func (PySem.W.fnOf "_law_rest" "_law_rest" (defArgs s_law_rest) (defBody s_law_rest) (defScope s_law_rest) .none kV12 dc12 pm12 an12 cd12 ct12), sl12⟩) (c12 : PySem.W.codeIn K cd12 "_law_rest" = true) (k12 : PySem.W.keepIn K (.ref f12) = true)
    {f13 : Addr} {od13 an13 : Option Addr} {sl13 : Array (Option Value)} {oc13 kV13 dc13 pm13 cd13 ct13 : Value}
    (a13 : PySem.W.nsIn K mainGlobals "law" = some (some (.ref f13))) (l13 : K.lookup f13 = some ⟨oc13, od13, .func (PySem.W.fnOf "law" "law" (defArgs s_law) (defBody s_law) (defScope s_law) .none kV13 dc13 pm13 an13 cd13 ct13), sl13⟩) (c13 : PySem.W.codeIn K cd13 "law" = true) (k13 : PySem.W.keepIn K (.ref f13) = true)
    (z_int : PySem.W.nsIn K mainGlobals "int" = some none)
    (z_isinstance : PySem.W.nsIn K mainGlobals "isinstance" = some none)
    (z_len : PySem.W.nsIn K mainGlobals "len" = some none)
    (z_list : PySem.W.nsIn K mainGlobals "list" = some none)
    (z_max : PySem.W.nsIn K mainGlobals "max" = some none)
    (z_min : PySem.W.nsIn K mainGlobals "min" = some none)
    (z_range : PySem.W.nsIn K mainGlobals "range" = some none)
    (z_sorted : PySem.W.nsIn K mainGlobals "sorted" = some none)
    (z_sum : PySem.W.nsIn K mainGlobals "sum" = some none)
    (z_tuple : PySem.W.nsIn K mainGlobals "tuple" = some none)
    : ∃ fd : FuncData, (∀ (s : Shared) (v : Value), BindsTo s fd ⟨[v], []⟩ [("_law_script", v)]) ∧ ∀ base : Heap, K.In base → base.Ns mainGlobals mg → FnOk l.prog w K mg base CX0 5 fa fd ["_law_script"] (spLaw K) := by
  have e := hfa.symm.trans (PySem.W.mg_of X G a13)
  cases e
  have F0 := fun_mk (st := s_parts_of) l0 c0 k0
  have F1 := fun_mk (st := s_weight) l1 c1 k1
  have F2 := fun_mk (st := s_told_by) l2 c2 k2
  have F3 := fun_mk (st := s_untold_by) l3 c3 k3
  have F4 := fun_mk (st := s_meetings) l4 c4 k4
  have F5 := fun_mk (st := s_lacking) l5 c5 k5
  have F6 := fun_mk (st := s_cut) l6 c6 k6
  have F7 := fun_mk (st := s_joined) l7 c7 k7
  have F8 := fun_mk (st := s_law_well) l8 c8 k8
  have F9 := fun_mk (st := s_law_draw) l9 c9 k9
  have F10 := fun_mk (st := s_law_text) l10 c10 k10
  have F11 := fun_mk (st := s_law_runs) l11 c11 k11
  have F12 := fun_mk (st := s_law_rest) l12 c12 k12
  have F13 := fun_mk (st := s_law) l13 c13 k13
  let T : Txt K mg := {
    f_parts_of := f0, fd_parts_of := _, d_parts_of := ⟨F0, F0.binds (ps := ["text"]) (fun _ _ _ _ _ _ us hl => match us, hl with | [_], _ => rfl), PySem.W.mg_of X G a0⟩,
    f_weight := f1, fd_weight := _, d_weight := ⟨F1, F1.binds (ps := ["parts"]) (fun _ _ _ _ _ _ us hl => match us, hl with | [_], _ => rfl), PySem.W.mg_of X G a1⟩,
    f_told_by := f2, fd_told_by := _, d_told_by := ⟨F2, F2.binds (ps := ["parts"]) (fun _ _ _ _ _ _ us hl => match us, hl with | [_], _ => rfl), PySem.W.mg_of X G a2⟩,
    f_untold_by := f3, fd_untold_by := _, d_untold_by := ⟨F3, F3.binds (ps := ["parts", "size"]) (fun _ _ _ _ _ _ us hl => match us, hl with | [_, _], _ => rfl), PySem.W.mg_of X G a3⟩,
    f_meetings := f4, fd_meetings := _, d_meetings := ⟨F4, F4.binds (ps := ["ones", "others"]) (fun _ _ _ _ _ _ us hl => match us, hl with | [_, _], _ => rfl), PySem.W.mg_of X G a4⟩,
    f_lacking := f5, fd_lacking := _, d_lacking := ⟨F5, F5.binds (ps := ["wanted", "parts"]) (fun _ _ _ _ _ _ us hl => match us, hl with | [_, _], _ => rfl), PySem.W.mg_of X G a5⟩,
    f_cut := f6, fd_cut := _, d_cut := ⟨F6, F6.binds (ps := ["parts", "wanted"]) (fun _ _ _ _ _ _ us hl => match us, hl with | [_, _], _ => rfl), PySem.W.mg_of X G a6⟩,
    f_joined := f7, fd_joined := _, d_joined := ⟨F7, F7.binds (ps := ["ones", "others"]) (fun _ _ _ _ _ _ us hl => match us, hl with | [_, _], _ => rfl), PySem.W.mg_of X G a7⟩,
    f_law_well := f8, fd_law_well := _, d_law_well := ⟨F8, F8.binds (ps := ["_law_cell"]) (fun _ _ _ _ _ _ us hl => match us, hl with | [_], _ => rfl), PySem.W.mg_of X G a8⟩,
    f_law_draw := f9, fd_law_draw := _, d_law_draw := ⟨F9, F9.binds (ps := ["_law_well_here", "_law_many"]) (fun _ _ _ _ _ _ us hl => match us, hl with | [_, _], _ => rfl), PySem.W.mg_of X G a9⟩,
    f_law_text := f10, fd_law_text := _, d_law_text := ⟨F10, F10.binds (ps := ["_law_well_here", "_law_many"]) (fun _ _ _ _ _ _ us hl => match us, hl with | [_, _], _ => rfl), PySem.W.mg_of X G a10⟩,
    f_law_runs := f11, fd_law_runs := _, d_law_runs := ⟨F11, F11.binds (ps := ["_law_well_here", "_law_size"]) (fun _ _ _ _ _ _ us hl => match us, hl with | [_, _], _ => rfl), PySem.W.mg_of X G a11⟩,
    f_law_rest := f12, fd_law_rest := _, d_law_rest := ⟨F12, F12.binds (ps := ["_law_runs_here", "_law_size"]) (fun _ _ _ _ _ _ us hl => match us, hl with | [_, _], _ => rfl), PySem.W.mg_of X G a12⟩,
    f_law := fa, fd_law := _, d_law := ⟨F13, F13.binds (ps := ["_law_script"]) (fun _ _ _ _ _ _ us hl => match us, hl with | [_], _ => rfl), PySem.W.mg_of X G a13⟩,
    m_int := PySem.W.mg_none_of X G z_int,
    m_isinstance := PySem.W.mg_none_of X G z_isinstance,
    m_len := PySem.W.mg_none_of X G z_len,
    m_list := PySem.W.mg_none_of X G z_list,
    m_max := PySem.W.mg_none_of X G z_max,
    m_min := PySem.W.mg_none_of X G z_min,
    m_range := PySem.W.mg_none_of X G z_range,
    m_sorted := PySem.W.mg_none_of X G z_sorted,
    m_sum := PySem.W.mg_none_of X G z_sum,
    m_tuple := PySem.W.mg_none_of X G z_tuple
  }
  exact ⟨T.fd_law, fun s v => .of_eq rfl, fun base _ _ => ok_law T⟩
end My
open PySem PySem.W PyProof.Rows
set_option maxHeartbeats 0 in
theorem PySem.Challenge.cw_pagelodge_k07_a_text_and_its_parts_holds : PySem.Challenge.rw_pagelodge_k07_a_text_and_its_parts.Holds := by
  w_on; o_law; k_head; (case hw => w_witness2)
  k_fill
  refine L2.walk_of (l := PySem.Challenge.rw_pagelodge_k07_a_text_and_its_parts) (n := 63) (k := 5) (x := "_law_script") (CX := fun _ => L2.CX0) (sp := fun w => My.spLaw _) rfl (by decide) rfl ⟨rfl, by decide, by decide⟩ (fun w h Y => PySem.W.kIn_of Y) ?F (fun _ _ a ns hl _ hS => ⟨a, ns, rfl, hS, hl, fun _ => rfl⟩) (fun _ _ _ _ _ h => h)
  case F =>
    intro w mg fa h KX G hmg
    refine' My.all_mk KX G hmg ?a0 ?l0 ?c0 ?k0 ?a1 ?l1 ?c1 ?k1 ?a2 ?l2 ?c2 ?k2 ?a3 ?l3 ?c3 ?k3 ?a4 ?l4 ?c4 ?k4 ?a5 ?l5 ?c5 ?k5 ?a6 ?l6 ?c6 ?k6 ?a7 ?l7 ?c7 ?k7 ?a8 ?l8 ?c8 ?k8 ?a9 ?l9 ?c9 ?k9 ?a10 ?l10 ?c10 ?k10 ?a11 ?l11 ?c11 ?k11 ?a12 ?l12 ?c12 ?k12 ?a13 ?l13 ?c13 ?k13 ?z_int ?z_isinstance ?z_len ?z_list ?z_max ?z_min ?z_range ?z_sorted ?z_sum ?z_tuple
    (case a0 => k_is)
    (case l0 => k_is)
    (case c0 => k_is)
    (case k0 => k_is)
    (case a1 => k_is)
    (case l1 => k_is)
    (case c1 => k_is)
    (case k1 => k_is)
    (case a2 => k_is)
    (case l2 => k_is)
    (case c2 => k_is)
    (case k2 => k_is)
    (case a3 => k_is)
    (case l3 => k_is)
    (case c3 => k_is)
    (case k3 => k_is)
    (case a4 => k_is)
    (case l4 => k_is)
    (case c4 => k_is)
    (case k4 => k_is)
    (case a5 => k_is)
    (case l5 => k_is)
    (case c5 => k_is)
    (case k5 => k_is)
    (case a6 => k_is)
    (case l6 => k_is)
    (case c6 => k_is)
    (case k6 => k_is)
    (case a7 => k_is)
    (case l7 => k_is)
    (case c7 => k_is)
    (case k7 => k_is)
    (case a8 => k_is)
    (case l8 => k_is)
    (case c8 => k_is)
    (case k8 => k_is)
    (case a9 => k_is)
    (case l9 => k_is)
    (case c9 => k_is)
    (case k9 => k_is)
    (case a10 => k_is)
    (case l10 => k_is)
    (case c10 => k_is)
    (case k10 => k_is)
    (case a11 => k_is)
    (case l11 => k_is)
    (case c11 => k_is)
    (case k11 => k_is)
    (case a12 => k_is)
    (case l12 => k_is)
    (case c12 => k_is)
    (case k12 => k_is)
    (case a13 => k_is)
    (case l13 => k_is)
    (case c13 => k_is)
    (case k13 => k_is)
    (case z_int => k_is)
    (case z_isinstance => k_is)
    (case z_len => k_is)
    (case z_list => k_is)
    (case z_max => k_is)
    (case z_min => k_is)
    (case z_range => k_is)
    (case z_sorted => k_is)
    (case z_sum => k_is)
    (case z_tuple => k_is)
