import PyProof.Rows.All
import Wide.All
import OpenK.AllK
import Wide.FinOn
import HandS.ForMost
import HandS.IsInst
import HandS.Walk
import HandS.Style
import HandS.Evl
import KE.SortData
import HandS.More
import HandS.ListItems
import PySem.Challenge.RW_pagelodge_k02_heads_in_a_row
set_option Elab.async false
set_option linter.all false
set_option maxRecDepth 100000
set_option maxHeartbeats 4000000
namespace My
open PySem PySem.Spec PyProof.Rows L2 TL
/-- xs == [], xs != []: items of any kind -/
def rEqNil (K : PySem.W.Frag) : R2 := fun x y H Q => ∃ p q xs, x = .ref p ∧ y = .ref q ∧ SqL K H p xs ∧ SqL K H q [] ∧ Q (.bl xs.isEmpty) H
section
variable {X : Cx}
theorem op_eqNil (hu : X.A.units + 64 < cLine) : OpR X (compareOp .Eq) (rEqNil X.K) := by
  intro pins s σ H x y v u Q I rx ry h
  obtain ⟨p, q, xs, rfl, rfl, h1, h2, k⟩ := h
  obtain ⟨its, rv, hl, _⟩ := I.list h1
  obtain ⟨its2, rv2, hl2, _⟩ := I.list h2
  cases (show v = Value.ref p from rx)
  cases (show u = Value.ref q from ry)
  cases rv2
  cases rv with
  | nil => exact SeqAt.eq_listAt (e := fun _ => true) hl.isList hl2.isList rfl (by omega) (fun j h1 _ => absurd h1 (by simp)) ⟨.bl true, H, I, rfl, k⟩
  | cons a b => exact SeqAt.eq_list_lengthsAt hl.isList hl2.isList (by simp) (by omega) ⟨.bl false, H, I, rfl, k⟩
end
/-! ### heaps that change at the well alone -/
def W3 (a b c : Int) : HO := .lst [.int a, .int b, .int c]
def IsW (H : Hp) (W : Addr) : Prop := ∃ a b c, H W = some (W3 a b c)
structure Wx (W : Addr) (H H' : Hp) : Prop where
  keep : ∀ b o, b ≠ W → H b = some o → H' b = some o
  well : IsW H' W
theorem Wx.refl {W : Addr} {H : Hp} (h : IsW H W) : Wx W H H := ⟨fun _ _ _ e => e, h⟩
theorem Wx.trans {W : Addr} {H H1 H2 : Hp} (a : Wx W H H1) (b : Wx W H1 H2) : Wx W H H2 := ⟨fun c o n e => b.keep c o n (a.keep c o n e), b.well⟩
theorem Wx.free {W : Addr} {H H' : Hp} (e : Wx W H H') {p : Addr} (h : H' p = none) : H p = none := by
  cases q : H p with
  | none => rfl
  | some o =>
    by_cases hp : p = W
    · obtain ⟨a, b, c, hw⟩ := e.well
      rw [hp, hw] at h
      cases h
    · rw [e.keep p o hp q] at h
      cases h
theorem Wx.new {W : Addr} {H H' : Hp} (e : Wx W H H') {p : Addr} {o : HO} (h : H' p = none) : Wx W H (upd H' p o) := by
  obtain ⟨k, a, b, c, hw⟩ := e
  refine ⟨fun d u n q => ?_, a, b, c, ?_⟩
  · rw [upd_ne (ne_of_none (k d u n q) h)]
    exact k d u n q
  · rw [upd_ne (ne_of_none hw h)]
    exact hw
theorem Wx.set {W : Addr} {H H' : Hp} (e : Wx W H H') (a b c : Int) : Wx W H (upd H' W (W3 a b c)) := by
  refine ⟨fun d u n q => ?_, a, b, c, upd_same⟩
  rw [upd_ne n]
  exact e.keep d u n q
theorem IsW.ne {H : Hp} {W p : Addr} (h : IsW H W) (hp : H p = none) : W ≠ p := by
  obtain ⟨a, b, c, hw⟩ := h
  exact ne_of_none hw hp
theorem Wx.same {W : Addr} {H H1 H2 : Hp} (a : Wx W H H1) (b : Same H1 H2) : Wx W H H2 := by
  obtain ⟨k, x, y, z, hw⟩ := a
  exact ⟨fun c o n e => b c o (k c o n e), x, y, z, b _ _ hw⟩
/-- a list (other than the well) that is made here may change -/
theorem Wx.mut {W : Addr} {H H' : Hp} (e : Wx W H H') {p : Addr} {o : HO} (h : H p = none) (n : W ≠ p) : Wx W H (upd H' p o) := by
  obtain ⟨k, a, b, c, hw⟩ := e
  refine ⟨fun d u m q => ?_, a, b, c, ?_⟩
  · rw [upd_ne (ne_of_none q h)]
    exact k d u m q
  · rw [upd_ne n]
    exact hw
def spWell : Sp := fun vs H Q _ => ∃ n : Int, vs = [.int n] ∧ ∀ p a b c, H p = none → Q (.ref p) (upd H p (W3 a b c))
def spDraw : Sp := fun vs H Q _ => ∃ (W : Addr) (m : Int), vs = [.ref W, .int m] ∧ 0 < m ∧ m < 1073741824 ∧ IsW H W ∧ ∀ r H', 0 ≤ r → r < m → Wx W H H' → Q (.int r) H'
theorem mod_lt {n m : Int} (h : 0 < m) : 0 ≤ n % m ∧ n % m < m := ⟨Int.emod_nonneg n (by omega), Int.emod_lt_of_pos n h⟩
theorem cmul_of {i j : Int} (h : 0 ≤ i ∧ i < 2147483647) : CMul i j := .inl (by omega)
/-! ### texts and lists -/
theorem atI_in {α : Type} {xs : List α} {r : Int} (h0 : 0 ≤ r) (h1 : r < xs.length) : ∃ c, c ∈ xs ∧ atI xs r = some c := by
  obtain ⟨n, rfl⟩ : ∃ n : Nat, r = n := ⟨r.toNat, by omega⟩
  have hn : n < xs.length := by omega
  exact ⟨xs[n], List.getElem_mem hn, atI_nat (List.getElem?_eq_getElem hn)⟩
theorem len_tl (z : Str) : z.cps.toList.length = z.length := Array.length_toList
theorem joinL_one : ∀ t : List Nat, joinL [] (t.map fun c => [c]) = t
  | [] => rfl
  | [c] => rfl
  | c :: d :: r => by
    show [c] ++ ([] ++ joinL [] ((d :: r).map fun c => [c])) = c :: d :: r
    rw [joinL_one (d :: r)]
    rfl
theorem join_signs (y : Str) (hy : y.cps.toList = []) (t : List Nat) : Txt.join y (t.map fun c => (⟨#[c]⟩ : Str)) = ⟨t.toArray⟩ := by
  have e : tl (Txt.join y (t.map fun c => (⟨#[c]⟩ : Str))) = t := by
    rw [join_eq, tl_join, List.map_map]
    show joinL (y.cps.toList) (t.map fun c => [c]) = t
    rw [hy, joinL_one]
  rw [← mk_tl (Txt.join y (t.map fun c => (⟨#[c]⟩ : Str))), e]
theorem joinL_len (S : List Nat) : ∀ ps : List (List Nat), (joinL S ps).length ≤ (ps.map List.length).sum + ps.length * S.length
  | [] => Nat.zero_le _
  | [p] => by
    show p.length ≤ p.length + 0 + 1 * S.length
    omega
  | p :: q :: r => by
    have ih := joinL_len S (q :: r)
    show (p ++ (S ++ joinL S (q :: r))).length ≤ p.length + ((q :: r).map List.length).sum + ((q :: r).length + 1) * S.length
    rw [List.length_append, List.length_append, Nat.add_mul]
    omega
theorem join_len (y : Str) (ps : List Str) : (Txt.join y ps).length ≤ (ps.map (·.length)).sum + ps.length * y.length := by
  have h := joinL_len (tl y) (ps.map tl)
  rw [← tl_join, ← join_eq, List.map_map, List.length_map] at h
  have e : (ps.map (List.length ∘ tl)) = ps.map (·.length) := List.map_congr_left fun z _ => len_tl z
  rw [e] at h
  have e2 : (tl (Txt.join y ps)).length = (Txt.join y ps).length := len_tl _
  have e3 : (tl y).length = y.length := len_tl _
  rw [e2, e3] at h
  exact h
theorem sum_ones (t : List Nat) : ((t.map fun c => (⟨#[c]⟩ : Str)).map (·.length)).sum = t.length := by
  induction t with
  | nil => rfl
  | cons c r ih =>
    show 1 + ((r.map fun c => (⟨#[c]⟩ : Str)).map (·.length)).sum = r.length + 1
    rw [ih]
    omega
theorem sum_le {b : Nat} : ∀ ps : List Str, (∀ z ∈ ps, z.length ≤ b) → (ps.map (·.length)).sum ≤ ps.length * b
  | [], _ => Nat.zero_le _
  | z :: r, h => by
    have ih := sum_le r fun y hy => h y (List.mem_cons_of_mem _ hy)
    have hz := h z (List.mem_cons_self ..)
    show z.length + (r.map (·.length)).sum ≤ (r.length + 1) * b
    rw [Nat.add_mul]
    omega
theorem len_app (a b : Str) : (a ++ b).length = a.length + b.length := Array.size_append
theorem cutS_len (z : Str) (lo hi : Option Int) : (cutS z lo hi).length ≤ z.length := by
  show ((z.cps.toList.drop _).take _).toArray.size ≤ _
  rw [List.size_toArray, List.length_take, List.length_drop, len_tl]
  omega
theorem szl {n : Nat} (h : n ≤ 100000) : n ≤ sizeLine := Nat.le_trans h (by decide)
theorem szlt {n : Nat} (h : n < 100000) : n < sizeLine := Nat.lt_of_lt_of_le h (by decide)
def spSigns : Sp := fun vs H Q _ => ∃ (W : Addr) (z : Str) (m : Int), vs = [.ref W, .str z, .int m] ∧ 0 < z.length ∧ z.length ≤ 1000 ∧ 0 ≤ m ∧ m ≤ 1000 ∧ IsW H W ∧
  ∀ (t : List Nat) H', t.length = m.toNat → (∀ c ∈ t, c ∈ z.cps.toList) → Wx W H H' → Q (.str ⟨t.toArray⟩) H'
theorem ints_at {ns : List Int} {r : Int} (h0 : 0 ≤ r) (h1 : r < ns.length) : ∃ n, n ∈ ns ∧ atI (ns.map V.int) r = some (.int n) := by
  obtain ⟨v, hv, ev⟩ := atI_in (xs := ns.map V.int) h0 (by rw [List.length_map]; exact h1)
  obtain ⟨n, hn, rfl⟩ := List.mem_map.mp hv
  exact ⟨n, hn, ev⟩
theorem strs_at {ns : List Str} {r : Int} (h0 : 0 ≤ r) (h1 : r < ns.length) : ∃ n, n ∈ ns ∧ atI (ns.map V.str) r = some (.str n) := by
  obtain ⟨v, hv, ev⟩ := atI_in (xs := ns.map V.str) h0 (by rw [List.length_map]; exact h1)
  obtain ⟨n, hn, rfl⟩ := List.mem_map.mp hv
  exact ⟨n, hn, ev⟩
theorem mk_len (t : List Nat) : (⟨t.toArray⟩ : Str).length = t.length := List.size_toArray
def spText (b : Nat) : Sp := fun vs H Q _ => ∃ (W : Addr), vs = [.ref W] ∧ IsW H W ∧ ∀ t H', t.length ≤ b → Wx W H H' → Q (.str t) H'
theorem same_upd {H : Hp} {p : Addr} {o : HO} (h : H p = none) : Same H (upd H p o) := fun b x e => by
  rw [upd_ne (ne_of_none e h)]
  exact e
theorem same_mut {H H' : Hp} {p : Addr} {o : HO} (e : Same H H') (h : H p = none) : Same H (upd H' p o) := fun a u ha => by
  rw [upd_ne (ne_of_none ha h)]
  exact e a u ha
theorem take_map {α β : Type} {xs : List α} {i : Nat} {c : α} (f : α → β) (h : xs[i]? = some c) : (xs.take (i + 1)).map f = (xs.take i).map f ++ [f c] := by
  rw [List.take_add_one, h, List.map_append]
  rfl
theorem at_l {z : Str} {i c : Nat} (h : z.cps[i]? = some c) : z.cps.toList[i]? = some c := by
  rw [Array.getElem?_toList]
  exact h
theorem filter_take {α β : Type} {xs : List α} {i : Nat} {c : α} (p : α → Bool) (f : α → β) (h : xs[i]? = some c) : ((xs.take (i + 1)).filter p).map f = ((xs.take i).filter p).map f ++ (if p c = true then [f c] else []) := by
  rw [List.take_add_one, h, List.filter_append, List.map_append]
  by_cases hp : p c = true
  · rw [if_pos hp]
    simp [hp]
  · rw [if_neg hp]
    simp [hp]
theorem all_filter {α : Type} (p : α → Bool) (xs : List α) : ((xs.filter fun c => !p c)).isEmpty = xs.all p := by
  induction xs with
  | nil => rfl
  | cons a r ih =>
    cases h : p a with
    | true => simp only [List.filter_cons, h, List.all_cons, Bool.not_true, Bool.true_and]; exact ih
    | false => simp [List.filter_cons, h, List.all_cons]
theorem isEmpty_map {α β : Type} (f : α → β) (xs : List α) : (xs.map f).isEmpty = xs.isEmpty := by
  cases xs <;> rfl
theorem str_at {ss : List Str} {i : Nat} {x : V} (h : (ss.map V.str)[i]? = some x) : ∃ y, x = .str y ∧ ss[i]? = some y ∧ y ∈ ss := by
  rw [List.getElem?_map] at h
  cases e : ss[i]? with
  | none =>
    rw [e] at h
    cases h
  | some y =>
    rw [e] at h
    cases h
    exact ⟨y, rfl, rfl, List.mem_of_getElem? e⟩
theorem cutV_map {α : Type} (f : α → V) (ns : List α) (lo hi : Option Int) : ∃ ms : List α, cutV (ns.map f) lo hi = ms.map f ∧ ms.length ≤ ns.length := by
  refine ⟨(ns.drop (HT.sIx ns.length 0 lo)).take (HT.sIx ns.length ns.length hi - HT.sIx ns.length 0 lo), ?_, ?_⟩
  · unfold cutV
    rw [List.length_map, List.map_take, List.map_drop]
  · rw [List.length_take, List.length_drop]
    omega
theorem int_at {ns : List Int} {i : Nat} {x : V} (h : (ns.map V.int)[i]? = some x) : ∃ n, x = .int n := by
  rw [List.getElem?_map] at h
  cases e : ns[i]? with
  | none =>
    rw [e] at h
    cases h
  | some y =>
    rw [e] at h
    cases h
    exact ⟨y, rfl⟩
theorem dp_bools {K : PySem.W.Frag} {H : Hp} : ∀ bs : List Bool, DpAll K H (bs.map V.bl) (bs.map PyData.bool)
  | [] => .nil
  | b :: r => .cons (.bl b) (dp_bools r)
theorem lay_bools : ∀ bs : List Bool, PyData.canLayAll0 (bs.map PyData.bool) = true
  | [] => rfl
  | _ :: r => by simp [PyData.canLayAll0, PyData.canLay0, lay_bools r]
theorem depth_bools : ∀ bs : List Bool, PyData.depthAll (bs.map PyData.bool) = 0
  | [] => rfl
  | _ :: r => by simp [PyData.depthAll, PyData.depth, depth_bools r]
theorem shaped_bools (bs : List Bool) : SeqAt.shaped (.list (bs.map PyData.bool)) = true := by
  simp [SeqAt.shaped, PyData.canLay0, PyData.depth, lay_bools, depth_bools]
theorem eqv_bools (bs : List Bool) : PyData.eqv (.list (bs.map PyData.bool)) (.list (bs.map PyData.bool)) = true := SeqAt.eqv_refl _ (by simp [PyData.canLay0, lay_bools])
def spLaw (K : PySem.W.Frag) : Sp := fun vs H Q _ => ∃ (a : Addr) (ns : List Int), vs = [.ref a] ∧ SqL K H a (ns.map V.int) ∧ ns.length ≤ 63 ∧ ∀ H', Q (.bl true) H'
/-! ### sorted(xs) of data that are alike, any length: the items by letters of a type B, their values, their data -/
section
variable {B : Type} {val : B → V} {enc : B → PyData}
theorem vals_each : ∀ {bs : List B} {us : List Value}, Vals (bs.map val) us → PySem.W.EachIs (fun u b => RelV (val b) u) us bs
  | [], _, r => by
    cases r
    exact .nil
  | b :: bs, _, r => by
    cases r with
    | cons h t => exact .cons h (vals_each t)
theorem each_vals : ∀ {bs : List B} {us : List Value}, PySem.W.EachIs (fun u b => RelV (val b) u) us bs → Vals (bs.map val) us
  | _, _, .nil => .nil
  | _, _, .cons h t => .cons h (each_vals t)
theorem each_reads {X : Cx} {pins : List (Addr × Obj)} {σ : L2.St} {H : Hp} {s : Shared} (I : Inv X pins σ H s) : ∀ {bs : List B} {us : List Value}, (∀ b ∈ bs, Dp X.K H (val b) (enc b)) → PySem.W.EachIs (fun u b => RelV (val b) u) us bs → PySem.W.EachIs (fun u b => ∃ as, Reads s.heap u (enc b) as) us bs
  | _, _, _, .nil => .nil
  | _, _, hd, .cons h t => .cons (Dp.reads I _ _ _ (hd _ (List.mem_cons_self ..)) h) (each_reads I (fun b hb => hd b (List.mem_cons_of_mem _ hb)) t)
def sortB (enc : B → PyData) (bs : List B) : List B := bs.mergeSort (PySem.W.dataLe false enc)
def rSortB (K : PySem.W.Frag) (val : B → V) (enc : B → PyData) : List V → Hp → VK → Prop := fun vs H Q => ∃ (a : Addr) (bs : List B), vs = [V.ref a] ∧ SqL K H a (bs.map val) ∧ (∀ b ∈ bs, Dp K H (val b) (enc b)) ∧ PySem.W.AllAlike (bs.map enc) ∧ PySem.W.Sortable (bs.map enc) ∧
  (∀ b ∈ bs, (enc b).depth ≤ 60) ∧ ∀ p, H p = none → Q (.ref p) (upd H p (.lst ((sortB enc bs).map val)))
theorem cr_sortB {X : Cx} (val : B → V) (enc : B → PyData) (hu : X.A.units + 64 < cLine) : CallR X (.builtin "sorted") (rSortB X.K val enc) := by
  intro pins s σ H vs us Q I r h
  obtain ⟨a, bs, rfl, hs, hd, ha, hk, hdp, q⟩ := h
  obtain ⟨its, rv, hl, hz⟩ := I.list hs
  rw [Vals.ref1 r]
  have e1 := vals_each rv
  rw [List.length_map] at hz
  refine PySem.W.sorted_data (enc := enc) hl.isList e1 (each_reads I hd e1) ha hk hz (fun b hb => by have := hdp b hb; omega) fun out ho eo => ?_
  obtain ⟨ep, he'⟩ := PyProof.Rows.sortedAll_at s.heap its out.toArray
  have hlen : ((sortB enc bs).map val).length ≤ sizeLine := by
    rw [List.length_map]
    unfold sortB
    rw [List.length_mergeSort]
    exact hz
  exact ⟨.ref _, upd H (s.heap.objs.size + 1) (.lst ((sortB enc bs).map val)), I.laid (t' := s.toks) (fun _ _ => PyProof.Rows.sortedAll_old) (Nat.le_succ _) ⟨hlen, out, ep, each_vals eo, he'⟩, rfl, q _ (I.hok.fresh (Nat.le_succ _))⟩
theorem sortB_perm (enc : B → PyData) (bs : List B) : (sortB enc bs).Perm bs := List.mergeSort_perm ..
theorem sortB_sorted (enc : B → PyData) (bs : List B) : (sortB enc bs).Pairwise fun a b => PySem.W.dataLe false enc a b = true := PySem.W.sort_pairwise (PySem.W.sortLe_total _ _ _) bs
end
theorem perm_sorted_eq {α : Type} {r : α → α → Prop} (anti : ∀ a b, r a b → r b a → a = b) : ∀ A B : List α, A.Pairwise r → B.Pairwise r → A.Perm B → A = B
  | [], B, _, _, h => (List.Perm.nil_eq h)
  | a :: A, [], _, _, h => absurd h.length_eq (by simp)
  | a :: A, b :: B, ha, hb, h => by
    have e : a = b := by
      rcases List.mem_cons.mp (h.mem_iff.mp (List.mem_cons_self ..)) with e | e
      · exact e
      · rcases List.mem_cons.mp (h.mem_iff.mpr (List.mem_cons_self ..)) with e' | e'
        · exact e'.symm
        · exact anti a b ((List.pairwise_cons.mp ha).1 b e') ((List.pairwise_cons.mp hb).1 a e)
    subst e
    rw [perm_sorted_eq anti A B (List.pairwise_cons.mp ha).2 (List.pairwise_cons.mp hb).2 (List.Perm.cons_inv h)]
/-! ### pairs of texts, in order -/
def ltS (a b : Str) : Prop := a.cps.toList < b.cps.toList
instance (a b : Str) : Decidable (ltS a b) := inferInstanceAs (Decidable (a.cps.toList < b.cps.toList))
theorem ltS_irr (a : Str) : ¬ ltS a a := List.lt_irrefl _
theorem ltS_trans {a b c : Str} (h : ltS a b) (h2 : ltS b c) : ltS a c := List.lt_trans h h2
theorem ltS_tri (a b : Str) : ltS a b ∨ a = b ∨ ltS b a := by
  by_cases h : ltS a b
  · exact .inl h
  · by_cases h2 : ltS b a
    · exact .inr (.inr h2)
    · exact .inr (.inl (PyProof.Rows.ext_toList (List.le_antisymm (List.not_lt.mp h2) (List.not_lt.mp h))))
def leSS (p q : Str × Str) : Prop := ltS p.1 q.1 ∨ (p.1 = q.1 ∧ ¬ ltS q.2 p.2)
theorem leSS_anti (p q : Str × Str) (h : leSS p q) (h2 : leSS q p) : p = q := by
  obtain ⟨a, b⟩ := p
  obtain ⟨c, d⟩ := q
  rcases h with h | ⟨e, h⟩
  · rcases h2 with h2 | ⟨e2, h2⟩
    · exact absurd (ltS_trans h h2) (ltS_irr _)
    · have e2' : c = a := e2
      subst e2'
      exact absurd h (ltS_irr _)
  · have e' : a = c := e
    subst e'
    rcases h2 with h2 | ⟨e2, h2⟩
    · exact absurd h2 (ltS_irr _)
    · rcases ltS_tri b d with x | x | x
      · exact absurd x h2
      · rw [x]
      · exact absurd x h
theorem dataLe_ss {B : Type} (x y : B → Str) (p q : B) (h : PySem.W.dataLe false (fun b => .tuple [.str (x b), .str (y b)]) p q = true) : leSS (x p, y p) (x q, y q) := by
  have e : PySem.W.dataLt (.tuple [.str (x q), .str (y q)]) (.tuple [.str (x p), .str (y p)]) = false := by
    have h' : (!PySem.W.dataLt (.tuple [.str (x q), .str (y q)]) (.tuple [.str (x p), .str (y p)])) = true := h
    simpa using h'
  rw [PySem.W.dataLt_pair (by simp [PySem.W.alike]) (by simp [PySem.W.alike]), PySem.W.dataLt_str, PySem.W.dataLt_str] at e
  simp only [PyData.eqv, beq_iff_eq] at e
  by_cases h1 : x q = x p
  · rw [if_pos h1] at e
    by_cases h2 : y q = y p
    · refine .inr ⟨h1.symm, fun z => ?_⟩
      have z' : ltS (y q) (y p) := z
      rw [h2] at z'
      exact ltS_irr _ z'
    · rw [if_neg h2] at e
      exact .inr ⟨h1.symm, of_decide_eq_false e⟩
  · rw [if_neg h1] at e
    rcases ltS_tri (x p) (x q) with z | z | z
    · exact .inl z
    · exact absurd z.symm h1
    · exact absurd z (of_decide_eq_false e)
end My
namespace My
open PySem PySem.Spec PyProof.Rows L2 TL
def topS (i : Nat) : Stmt := PySem.Challenge.pw_pagelodge_k02_heads_in_a_row.main.body.getD i (.Pass ⟨0, 0, 0, 0⟩)
abbrev s_heads_row : Stmt := topS 1
theorem sc_heads_row : FnScope ["heads", "name", "worth"] ["heads"] (defScope s_heads_row) := ⟨rfl, rfl, rfl, by decide +kernel, rfl, by decide +kernel, by decide +kernel⟩
abbrev s_worth_of : Stmt := topS 2
theorem sc_worth_of : FnScope ["row", "name", "named", "worth"] ["row", "name"] (defScope s_worth_of) := ⟨rfl, rfl, rfl, by decide +kernel, rfl, by decide +kernel, by decide +kernel⟩
abbrev s_law_well : Stmt := topS 4
theorem sc_law_well : FnScope ["_law_cell"] ["_law_cell"] (defScope s_law_well) := ⟨rfl, rfl, rfl, by decide +kernel, rfl, by decide +kernel, by decide +kernel⟩
abbrev s_law_draw : Stmt := topS 5
theorem sc_law_draw : FnScope ["_law_well_here", "_law_many", "_law_found", "_law_number"] ["_law_well_here", "_law_many"] (defScope s_law_draw) := ⟨rfl, rfl, rfl, by decide +kernel, rfl, by decide +kernel, by decide +kernel⟩
abbrev s_law_name : Stmt := topS 6
theorem sc_law_name : FnScope ["_law_well_here", "_law_some", "_law_size", "_law_k"] ["_law_well_here"] (defScope s_law_name) := ⟨rfl, rfl, rfl, by decide +kernel, rfl, by decide +kernel, by decide +kernel⟩
abbrev s_law_names : Stmt := topS 7
theorem sc_law_names : FnScope ["_law_well_here", "_law_many", "_law_found", "_law_k", "_law_near", "_law_name_here", "_law_some", "_law_sign", "_law_one"] ["_law_well_here", "_law_many"] (defScope s_law_names) := ⟨rfl, rfl, rfl, by decide +kernel, rfl, by decide +kernel, by decide +kernel⟩
abbrev s_law_worth : Stmt := topS 8
theorem sc_law_worth : FnScope ["_law_well_here", "_law_size", "_law_some", "_law_k"] ["_law_well_here"] (defScope s_law_worth) := ⟨rfl, rfl, rfl, by decide +kernel, rfl, by decide +kernel, by decide +kernel⟩
abbrev s_law_row : Stmt := topS 9
theorem sc_law_row : FnScope ["_law_pairs", "_law_found", "_law_name_here", "_law_worth_here", "_law_at", "_law_one", "_law_other"] ["_law_pairs"] (defScope s_law_row) := ⟨rfl, rfl, rfl, by decide +kernel, rfl, by decide +kernel, by decide +kernel⟩
abbrev s_law_right : Stmt := topS 10
theorem sc_law_right : FnScope ["_law_found", "_law_due", "_law_one"] ["_law_found", "_law_due"] (defScope s_law_right) := ⟨rfl, rfl, rfl, by decide +kernel, rfl, by decide +kernel, by decide +kernel⟩
abbrev s_law : Stmt := topS 11
theorem sc_law : FnScope ["_law_script", "_law_cell", "_law_well_here", "_law_many", "_law_names_here", "_law_pairs", "_law_heads", "_law_row_here", "_law_asked", "_law_name_here", "_law_worth_here", "_law_found"] ["_law_script"] (defScope s_law) := ⟨rfl, rfl, rfl, by decide +kernel, rfl, by decide +kernel, by decide +kernel⟩
structure Def (K : PySem.W.Frag) (mg : Str → Option Value) (x : Str) (st : Stmt) (ps : List Str) (f : Addr) (fd : FuncData) : Prop where
  F : Fun K x x st f fd
  b : Binds K fd ps []
  g : mg x = some (.ref f)
structure Txt (K : PySem.W.Frag) (mg : Str → Option Value) where
  f_heads_row : Addr
  fd_heads_row : FuncData
  d_heads_row : Def K mg "heads_row" s_heads_row ["heads"] f_heads_row fd_heads_row
  f_worth_of : Addr
  fd_worth_of : FuncData
  d_worth_of : Def K mg "worth_of" s_worth_of ["row", "name"] f_worth_of fd_worth_of
  f_law_well : Addr
  fd_law_well : FuncData
  d_law_well : Def K mg "_law_well" s_law_well ["_law_cell"] f_law_well fd_law_well
  f_law_draw : Addr
  fd_law_draw : FuncData
  d_law_draw : Def K mg "_law_draw" s_law_draw ["_law_well_here", "_law_many"] f_law_draw fd_law_draw
  f_law_name : Addr
  fd_law_name : FuncData
  d_law_name : Def K mg "_law_name" s_law_name ["_law_well_here"] f_law_name fd_law_name
  f_law_names : Addr
  fd_law_names : FuncData
  d_law_names : Def K mg "_law_names" s_law_names ["_law_well_here", "_law_many"] f_law_names fd_law_names
  f_law_worth : Addr
  fd_law_worth : FuncData
  d_law_worth : Def K mg "_law_worth" s_law_worth ["_law_well_here"] f_law_worth fd_law_worth
  f_law_row : Addr
  fd_law_row : FuncData
  d_law_row : Def K mg "_law_row" s_law_row ["_law_pairs"] f_law_row fd_law_row
  f_law_right : Addr
  fd_law_right : FuncData
  d_law_right : Def K mg "_law_right" s_law_right ["_law_found", "_law_due"] f_law_right fd_law_right
  f_law : Addr
  fd_law : FuncData
  d_law : Def K mg "law" s_law ["_law_script"] f_law fd_law
  m_dict : mg "dict" = none
  m_int : mg "int" = none
  m_isinstance : mg "isinstance" = none
  m_len : mg "len" = none
  m_list : mg "list" = none
  m_range : mg "range" = none
  m_sorted : mg "sorted" = none
  m_str : mg "str" = none
  m_tuple : mg "tuple" = none
/-! ### names: unlike ones -/
def Asc (z : Str) : Prop := ∀ c ∈ z.cps.toList, c < 128
instance (z : Str) : Decidable (Asc z) := inferInstanceAs (Decidable (∀ c ∈ z.cps.toList, c < 128))
def Nm (z : Str) : Prop := 1 ≤ z.length ∧ z.length ≤ 8 ∧ Asc z
theorem asc_mk {t : List Nat} (h : ∀ c ∈ t, c < 128) : Asc ⟨t.toArray⟩ := fun c hc => h c (by simpa using hc)
theorem asc_app {a b : Str} (ha : Asc a) (hb : Asc b) : Asc (a ++ b) := by
  intro c hc
  have e : (a ++ b).cps.toList = a.cps.toList ++ b.cps.toList := Array.toList_append
  rw [e] at hc
  rcases List.mem_append.mp hc with h | h
  · exact ha c h
  · exact hb c h
theorem asc_cut {z : Str} (h : Asc z) (lo hi : Option Int) : Asc (cutS z lo hi) := by
  refine asc_mk fun c hc => h c ?_
  exact List.mem_of_mem_drop (List.mem_of_mem_take hc)
theorem erase_len {α : Type} [BEq α] [LawfulBEq α] {F : List α} {x : α} (h : x ∈ F) : (F.erase x).length + 1 = F.length := by
  rw [List.length_erase_of_mem h]
  have : 0 < F.length := List.length_pos_of_mem h
  omega
theorem nodup_sub {α : Type} [BEq α] [LawfulBEq α] : ∀ (L F : List α), L.Nodup → (∀ x ∈ L, x ∈ F) → L.length ≤ F.length
  | [], _, _, _ => Nat.zero_le _
  | x :: L, F, hn, h => by
    have hx := h x (List.mem_cons_self ..)
    have ih := nodup_sub L (F.erase x) (List.nodup_cons.mp hn).2 fun y hy => by
      have ne : y ≠ x := fun e => (List.nodup_cons.mp hn).1 (e ▸ hy)
      exact (List.mem_erase_of_ne ne).mpr (h y (List.mem_cons_of_mem _ hy))
    have := erase_len hx
    rw [List.length_cons]
    omega
def abc : Str := "abcdefghijklmnopqrstuvwxyz"
def cands (z : Str) : List Str := abc.cps.toList.map fun c => cutS z none (some 7) ++ ⟨#[c]⟩
theorem cands_nodup (z : Str) : (cands z).Nodup := by
  unfold cands
  refine List.Pairwise.map _ (R := fun a b => a ≠ b) (fun a b n e => n ?_) (by decide)
  have e1 := congrArg (fun s : Str => s.cps.toList) e
  have e2 : (cutS z none (some 7)).cps.toList ++ [a] = (cutS z none (some 7)).cps.toList ++ [b] := by
    have f : ∀ d : Nat, ((cutS z none (some 7)) ++ (⟨#[d]⟩ : Str)).cps.toList = (cutS z none (some 7)).cps.toList ++ [d] := fun d => Array.toList_append
    rw [← f, ← f]
    exact e1
  exact (List.cons.inj (List.append_cancel_left e2)).1
theorem cut7_len (z : Str) : (cutS z none (some 7)).length ≤ 7 := by
  show ((z.cps.toList.drop _).take _).toArray.size ≤ _
  rw [List.size_toArray, List.length_take, HT.sIx_none, show HT.sIx z.length z.length (some 7) = min 7 z.length from HT.sIx_nat z.length z.length 7]
  omega
theorem cands_nm {z y : Str} (h : Asc z) (hy : y ∈ cands z) : Nm y := by
  obtain ⟨c, hc, rfl⟩ := List.mem_map.mp hy
  have h1 := cut7_len z
  have e : (⟨#[c]⟩ : Str).length = 1 := rfl
  refine ⟨by rw [len_app]; omega, by rw [len_app]; omega, asc_app (asc_cut h _ _) fun d hd => ?_⟩
  rw [List.mem_singleton.mp hd]
  exact (by decide : ∀ c ∈ abc.cps.toList, c < 128) c hc
/-- what is taken: the first that is not there -/
theorem pick {z : Str} {F : List Str} (hz : Nm z) (hl : F.length < 20) : ∃ y, ((z :: cands z).filter fun y => !decide (y ∈ F)).head? = some y ∧ y ∉ F ∧ Nm y := by
  cases e : (z :: cands z).filter fun y => !decide (y ∈ F) with
  | nil =>
    exfalso
    have h1 : ∀ x ∈ cands z, x ∈ F := fun x hx => by
      by_cases hm : x ∈ F
      · exact hm
      · have : x ∈ (z :: cands z).filter fun y => !decide (y ∈ F) := List.mem_filter.mpr ⟨List.mem_cons_of_mem _ hx, by simp [hm]⟩
        rw [e] at this
        cases this
    have h2 := nodup_sub _ _ (cands_nodup z) h1
    have h3 : (cands z).length = 26 := by
      unfold cands
      rw [List.length_map]
      decide
    omega
  | cons y r =>
    have hy : y ∈ (z :: cands z).filter fun y => !decide (y ∈ F) := by
      rw [e]
      exact List.mem_cons_self ..
    obtain ⟨h1, h2⟩ := List.mem_filter.mp hy
    refine ⟨y, rfl, by simpa using h2, ?_⟩
    rcases List.mem_cons.mp h1 with rfl | h
    · exact hz
    · exact cands_nm hz.2.2 h
theorem inV_strs (x : Str) (F : List Str) : inV (.str x) (F.map V.str) = decide (x ∈ F) := by
  unfold inV
  rw [List.any_map, Bool.eq_iff_iff, List.any_eq_true, decide_eq_true_iff]
  constructor
  · rintro ⟨y, hy, e⟩
    have e' : (y == x) = true := e
    rw [← eq_of_beq e']
    exact hy
  · intro h
    exact ⟨x, h, by show (x == x) = true; exact beq_self_eq_true x⟩
theorem flat_strs (F : List Str) : (F.map V.str).all flatV = true := by
  rw [List.all_map, List.all_eq_true]
  intro x _
  rfl
/-! ### texts as data -/
theorem dp_strs {K : PySem.W.Frag} {H : Hp} : ∀ F : List Str, DpAll K H (F.map V.str) (F.map PyData.str)
  | [] => .nil
  | b :: r => .cons (.str b) (dp_strs r)
theorem ok_asc {z : Str} (h : Asc z) : PyData.strOk z = true := by
  unfold PyData.strOk
  rw [Array.all_eq_true']
  intro c hc
  have : c < 128 := h c (by simpa using hc)
  exact decide_eq_true (by omega)
theorem lay_strs : ∀ F : List Str, (∀ z ∈ F, Asc z) → PyData.canLayAll0 (F.map PyData.str) = true
  | [], _ => rfl
  | z :: r, h => by simp [PyData.canLayAll0, PyData.canLay0, ok_asc (h z (List.mem_cons_self ..)), lay_strs r fun y hy => h y (List.mem_cons_of_mem _ hy)]
theorem depth_strs : ∀ F : List Str, PyData.depthAll (F.map PyData.str) = 0
  | [] => rfl
  | _ :: r => by simp [PyData.depthAll, PyData.depth, depth_strs r]
theorem shaped_strs (F : List Str) (h : ∀ z ∈ F, Asc z) : SeqAt.shaped (.list (F.map PyData.str)) = true := by
  simp [SeqAt.shaped, PyData.canLay0, PyData.depth, lay_strs F h, depth_strs]
section
variable {P : Program} {w : World} {K : PySem.W.Frag} {mg : Str → Option Value} {base : Heap}
theorem ok_law_well (T : Txt K mg) : FnOk P w K mg base CX0 1 T.f_law_well T.fd_law_well ["_law_cell"] spWell := by
  refine T.d_law_well.F.ok sc_law_well (fun vs H Q E h => ?_) (fun cdv A outer s H vs Q E hr h => ?_)
  · obtain ⟨n, rfl, _⟩ := h
    rfl
  · obtain ⟨n, rfl, q⟩ := h
    refine ⟨_, (pss_one (ps_ret (pe_lst (pa_cons (pe_op op_mul (pv 0) (pe_callTy call_int1 (by rfl) T.m_int (by decide +kernel) (pa_cons (pe_cmpR op_ge (pv 0) (pe_op op_pow pe_int pe_int) (nomark _)) pa_nil))) (pa_cons (pe_op op_mod (pv 0) pe_int) (pa_cons pe_int pa_nil)))))), ?_⟩
    refine ⟨.int n, rfl, .int n, rfl, 10, 18, rfl, rfl, ⟨by decide, by decide, by decide⟩, n, _, rfl, rfl, .inr ⟨_, rfl, n, _, rfl, rfl, ?_, .int n, rfl, n, _, rfl, rfl, (show (0 : Int) < 2147483647 by decide), ?_⟩⟩
    · refine .inr ?_
      split <;> decide
    · exact ⟨(by show 3 ≤ sizeLine; decide), fun p hp => q p _ _ _ hp⟩
theorem ok_law_draw (T : Txt K mg) : FnOk P w K mg base CX0 1 T.f_law_draw T.fd_law_draw ["_law_well_here", "_law_many"] spDraw := by
  refine T.d_law_draw.F.ok sc_law_draw (fun vs H Q E h => ?_) (fun cdv A outer s H vs Q E hr h => ?_)
  · obtain ⟨W, m, rfl, _⟩ := h
    rfl
  · obtain ⟨W, m, rfl, m0, m1, hI, q⟩ := h
    obtain ⟨a, b, c, hW⟩ := id hI
    have i0 : atI [V.int a, .int b, .int c] 0 = some (.int a) := rfl
    have i1 : atI [V.int a, .int b, .int c] 1 = some (.int b) := rfl
    have i2 : atI [V.int a, .int b, .int c] 2 = some (.int c) := rfl
    refine ⟨_, (pss_cons (ps_if (pt_cmpR op_gt (pe_ix ix_list (pv 0) pe_int (fun _ _ => rfl)) pe_int (nomark _))
      (pss_cons (ps_set (i := 2) sc_law_draw.nd rfl (.inl rfl) (pe_op op_mod (pe_ix ix_list (pv 0) pe_int (fun _ _ => rfl)) (pv 1)))
      (pss_cons (ps_asg (pe_op op_fdiv (pe_ix ix_list (pv 0) pe_int (fun _ _ => rfl)) (pv 1)) (pg_sub (pv 0) pe_int set_list))
      (pss_one (ps_ret (pv 2)))))
      pss_nil)
      (pss_cons (ps_asg (pe_op op_add (pe_ix ix_list (pv 0) pe_int (fun _ _ => rfl)) pe_int) (pg_sub (pv 0) pe_int set_list))
      (pss_cons (ps_set (i := 3) sc_law_draw.nd rfl (.inl rfl) (pe_op op_mod (pe_op op_mul (pe_op op_add (pe_op op_add (pe_ix ix_list (pv 0) pe_int (fun _ _ => rfl)) (pe_op op_mul pe_int (pe_ix ix_list (pv 0) pe_int (fun _ _ => rfl)))) pe_int) pe_int) pe_int))
      (pss_cons (ps_set (i := 3) sc_law_draw.nd rfl (.inl rfl) (pe_op op_mod (pe_op op_mul (pv 3) (pe_op op_add (pe_op op_fdiv (pv 3) pe_int) pe_int)) pe_int))
      (pss_one (ps_ret (pe_op op_mod (pe_op op_mod (pe_op op_mul (pv 3) (pe_op op_add (pe_op op_fdiv (pv 3) pe_int) pe_int)) pe_int) (pv 1)))))))), ?_⟩
    refine ⟨.ref W, rfl, W, _, 0, _, rfl, rfl, SqL.of hW, i0, a, 0, rfl, rfl, _, rfl, ite2 (fun e => ?_) (fun e => ?_)⟩
    · refine ⟨.ref W, rfl, W, _, 0, _, rfl, rfl, SqL.of hW, i0, .int m, rfl, a, m, rfl, rfl, m0, ?_⟩
      refine ⟨.ref W, rfl, W, _, 0, _, rfl, rfl, SqL.of hW, i0, .int m, rfl, a, m, rfl, rfl, ⟨m0, m1⟩, .ref W, rfl, W, _, 0, 0, rfl, rfl, hW, rfl, ?_⟩
      exact ⟨_, rfl, q _ _ (mod_lt m0).1 (mod_lt m0).2 ((Wx.refl hI).set _ _ _)⟩
    · refine ⟨.ref W, rfl, W, _, 2, _, rfl, rfl, SqL.of hW, i2, c, 1, rfl, rfl, .ref W, rfl, W, _, 2, 2, rfl, rfl, hW, rfl, ?_⟩
      have hW' : (upd H W (W3 a b (c + 1))) W = some (W3 a b (c + 1)) := upd_same
      have j1 : atI [V.int a, .int b, .int (c + 1)] 1 = some (.int b) := rfl
      have j2 : atI [V.int a, .int b, .int (c + 1)] 2 = some (.int (c + 1)) := rfl
      refine ⟨.ref W, rfl, W, _, 1, _, rfl, rfl, SqL.of hW', j1, .ref W, rfl, W, _, 2, _, rfl, rfl, SqL.of hW', j2, 7919, _, rfl, rfl, .inl (by decide), b, _, rfl, rfl, _, 1, rfl, rfl, _, 48271, rfl, rfl, .inr (by decide), _, 2147483647, rfl, rfl, (show (0 : Int) < 2147483647 by decide), ?_⟩
      refine ⟨_, rfl, _, rfl, _, 1009, rfl, rfl, ⟨by decide, by decide⟩, _, 69621, rfl, rfl, _, _, rfl, rfl, cmul_of (mod_lt (by decide)), _, 2147483647, rfl, rfl, (show (0 : Int) < 2147483647 by decide), ?_⟩
      refine ⟨_, rfl, _, rfl, _, 2003, rfl, rfl, ⟨by decide, by decide⟩, _, 40692, rfl, rfl, _, _, rfl, rfl, cmul_of (mod_lt (by decide)), _, 2147483399, rfl, rfl, (show (0 : Int) < 2147483399 by decide), .int m, rfl, _, m, rfl, rfl, m0, ?_⟩
      exact q _ _ (mod_lt m0).1 (mod_lt m0).2 ((Wx.refl hI).set _ _ _)

def spNm : Sp := fun vs H Q _ => ∃ (W : Addr), vs = [.ref W] ∧ IsW H W ∧ ∀ t H', Nm t → Wx W H H' → Q (.str t) H'
theorem ok_law_name (T : Txt K mg) : FnOk P w K mg base CX0 2 T.f_law_name T.fd_law_name ["_law_well_here"] spNm := by
  refine T.d_law_name.F.ok sc_law_name (fun vs H Q E h => ?_) (fun cdv A outer s H vs Q E hr h => ?_)
  · obtain ⟨W, rfl, _⟩ := h
    rfl
  · obtain ⟨W, rfl, hI, q⟩ := h
    refine ⟨_, (pss_cons (ps_set (i := 1) sc_law_name.nd rfl (.inr rfl) pe_str)
      (pss_cons (ps_if (pt_cmpR op_eq (pe_call (ok_law_draw T) (hr.mono (by decide)) (by rfl) T.d_law_draw.g T.d_law_draw.F.kp T.d_law_draw.b .nil pass0 (pa_cons (pv 0) (pa_cons pe_int pa_nil))) pe_int (nomark _))
      (pss_one (ps_ret (pe_ix ix_list (pe_lst (pa_cons pe_str (pa_cons pe_str (pa_cons pe_str (pa_cons pe_str (pa_cons pe_str (pa_cons pe_str pa_nil))))))) (pe_call (ok_law_draw T) (hr.mono (by decide)) (by rfl) T.d_law_draw.g T.d_law_draw.F.kp T.d_law_draw.b .nil pass0 (pa_cons (pv 0) (pa_cons pe_int pa_nil))) (fun _ _ => rfl))))
      pss_nil)
      (pss_cons (ps_set (i := 2) sc_law_name.nd rfl (.inl rfl) (pe_op op_add pe_int (pe_call (ok_law_draw T) (hr.mono (by decide)) (by rfl) T.d_law_draw.g T.d_law_draw.F.kp T.d_law_draw.b .nil pass0 (pa_cons (pv 0) (pa_cons pe_int pa_nil)))))
      (pss_one (ps_ret (pe_join pe_str (pe_lc (own := [("_law_k", 3)]) (g := gName 3) (tt := tYes) (by rfl) sc_law_name.nd (pi_range1 (by rfl) T.m_range (pa_cons (pv 2) pa_nil)) (blkOk_by (own := [("_law_k", 3)]) (N := ["_law_well_here", "_law_some", "_law_size", "_law_k"]) (sc := defScope s_law_name) (by decide +kernel)) (fun _ _ _ _ _ => (pg_name (i := 3) sc_law_name.nd rfl (Or.inl rfl))) (fun _ _ _ _ _ => pts_nil) (fun _ _ _ _ _ => (pe_ix ix_str (pv 1) (pe_call (ok_law_draw T) (hr.mono (by decide)) (by rfl) T.d_law_draw.g T.d_law_draw.F.kp T.d_law_draw.b .nil pass0 (pa_cons (pv 0) (pa_cons pe_int pa_nil))) (fun _ _ => rfl)))))))))), ?_⟩
    refine ⟨.ref W, rfl, W, 6, rfl, by decide, by decide, hI, fun r H1 r0 r1 x1 => ⟨rfl, _, rfl, ite2 (fun e => ?_) (fun e => ?_)⟩⟩
    · refine ⟨(by show 6 ≤ sizeLine; decide), fun p hp => ?_⟩
      have x2 := x1.new (o := .lst ((["who", "lang", "form", "a", "z", "wh"] : List Str).map V.str)) hp
      refine ⟨.ref W, rfl, W, 6, rfl, by decide, by decide, x2.well, fun r3 H3 r30 r31 x3 => ?_⟩
      obtain ⟨n, hn, en⟩ := strs_at (ns := ["who", "lang", "form", "a", "z", "wh"]) r30 r31
      have bn : Nm n := (by decide : ∀ n ∈ (["who", "lang", "form", "a", "z", "wh"] : List Str), 1 ≤ n.length ∧ n.length ≤ 8 ∧ Asc n) n hn
      exact ⟨p, _, r3, _, rfl, rfl, SqL.of (x3.keep p _ (x1.well.ne hp).symm upd_same), en, q _ _ bn (x2.trans x3)⟩
    · refine ⟨.ref W, rfl, W, 8, rfl, by decide, by decide, x1.well, fun r2 H2 r20 r21 x2 => ⟨1, r2, rfl, rfl, ?_⟩⟩
      have x12 := x1.trans x2
      refine ⟨⟨_, rfl⟩, .int (1 + r2), rfl, _, rfl, by omega, by omega, fun D hD => ?_⟩
      have nD : W ≠ D := x2.well.ne hD
      have hD0 : H D = none := x12.free hD
      refine lc_range (lo := 0) (n := (1 + r2).toNat) (fun i H' => ∃ t : List Nat, t.length = i ∧ (∀ c ∈ t, c ∈ abc.cps.toList) ∧ Wx W H H' ∧ H' D = some (.lst (t.map fun c => V.str ⟨#[c]⟩)))
        ⟨[], rfl, (fun _ h => nomatch h), x12.new hD, upd_same⟩ ?_ ?_
      · rintro i H' hi ⟨t, tn, tz, x, hD'⟩
        refine ⟨rfl, .str abc, rfl, .ref W, rfl, W, 26, rfl, by decide, by decide, x.well, fun r H5 r0 r1 x5 => ?_⟩
        obtain ⟨c, hc, ec⟩ := atI_in (xs := abc.cps.toList) r0 r1
        refine ⟨abc, r, c, rfl, rfl, by decide, ec, _, x5.keep D _ nD.symm hD', ?_, t ++ [c], ?_, ?_, (x.trans x5).mut hD0 nD, ?_⟩
        · rw [List.length_map]
          exact szlt (by omega)
        · rw [List.length_append, tn]
          rfl
        · intro d hd
          rcases List.mem_append.mp hd with h | h
          · exact tz d h
          · rw [List.mem_singleton.mp h]
            exact hc
        · rw [upd_same, List.map_append]
          rfl
      · rintro H' ⟨t, tn, tz, x, hD'⟩
        refine ⟨_, D, t.map fun c => (⟨#[c]⟩ : Str), rfl, rfl, .inl (SqL.of (by rw [hD', List.map_map]; rfl)), ?_, ?_⟩
        · rw [sum_ones, List.length_map]
          show t.length + t.length * 0 ≤ _
          omega
        · rw [join_signs _ rfl]
          exact q _ H' ⟨by rw [mk_len]; omega, by rw [mk_len]; omega, asc_mk fun c hc => (by decide : ∀ c ∈ abc.cps.toList, c < 128) c (tz c hc)⟩ x
def Wo (z : Str) : Prop := z.length ≤ 12 ∧ Asc z
def spWo : Sp := fun vs H Q _ => ∃ (W : Addr), vs = [.ref W] ∧ IsW H W ∧ ∀ t H', Wo t → Wx W H H' → Q (.str t) H'
def abd : Str := "abcdefghijklmnopqrstuvwxyz0123456789-"
theorem ok_law_worth (T : Txt K mg) : FnOk P w K mg base CX0 2 T.f_law_worth T.fd_law_worth ["_law_well_here"] spWo := by
  refine T.d_law_worth.F.ok sc_law_worth (fun vs H Q E h => ?_) (fun cdv A outer s H vs Q E hr h => ?_)
  · obtain ⟨W, rfl, _⟩ := h
    rfl
  · obtain ⟨W, rfl, hI, q⟩ := h
    refine ⟨_, (pss_cons (ps_set (i := 1) sc_law_worth.nd rfl (.inl rfl) (pe_ix ix_list (pe_lst (pa_cons pe_int (pa_cons pe_int (pa_cons pe_int (pa_cons pe_int (pa_cons pe_int (pa_cons pe_int pa_nil))))))) (pe_call (ok_law_draw T) (hr.mono (by decide)) (by rfl) T.d_law_draw.g T.d_law_draw.F.kp T.d_law_draw.b .nil pass0 (pa_cons (pv 0) (pa_cons pe_int pa_nil))) (fun _ _ => rfl)))
      (pss_cons (ps_set (i := 2) sc_law_worth.nd rfl (.inr rfl) pe_str)
      (pss_one (ps_ret (pe_join pe_str (pe_lc (own := [("_law_k", 3)]) (g := gName 3) (tt := tYes) (by rfl) sc_law_worth.nd (pi_range1 (by rfl) T.m_range (pa_cons (pv 1) pa_nil)) (blkOk_by (own := [("_law_k", 3)]) (N := ["_law_well_here", "_law_size", "_law_some", "_law_k"]) (sc := defScope s_law_worth) (by decide +kernel)) (fun _ _ _ _ _ => (pg_name (i := 3) sc_law_worth.nd rfl (Or.inl rfl))) (fun _ _ _ _ _ => pts_nil) (fun _ _ _ _ _ => (pe_ix ix_str (pv 2) (pe_call (ok_law_draw T) (hr.mono (by decide)) (by rfl) T.d_law_draw.g T.d_law_draw.F.kp T.d_law_draw.b .nil pass0 (pa_cons (pv 0) (pa_cons pe_int pa_nil))) (fun _ _ => rfl))))))))), ?_⟩
    refine ⟨(by show 6 ≤ sizeLine; decide), fun p hp => ?_⟩
    have x0 := (Wx.refl hI).new (o := .lst (([0, 12, 1, 2, 5, 0] : List Int).map V.int)) hp
    refine ⟨.ref W, rfl, W, 6, rfl, by decide, by decide, x0.well, fun r H1 r0 r1 x1 => ?_⟩
    obtain ⟨n, hn, en⟩ := ints_at (ns := [0, 12, 1, 2, 5, 0]) r0 r1
    have bn : 0 ≤ n ∧ n ≤ 12 := (by decide : ∀ n ∈ ([0, 12, 1, 2, 5, 0] : List Int), 0 ≤ n ∧ n ≤ 12) n hn
    refine ⟨p, _, r, _, rfl, rfl, SqL.of (x1.keep p _ (hI.ne hp).symm upd_same), en, ?_⟩
    have x12 := x0.trans x1
    refine ⟨⟨_, rfl⟩, .int n, rfl, _, rfl, by omega, by omega, fun D hD => ?_⟩
    have nD : W ≠ D := x1.well.ne hD
    have hD0 : H D = none := x12.free hD
    refine lc_range (lo := 0) (n := n.toNat) (fun i H' => ∃ t : List Nat, t.length = i ∧ (∀ c ∈ t, c ∈ abd.cps.toList) ∧ Wx W H H' ∧ H' D = some (.lst (t.map fun c => V.str ⟨#[c]⟩)))
      ⟨[], rfl, (fun _ h => nomatch h), x12.new hD, upd_same⟩ ?_ ?_
    · rintro i H' hi ⟨t, tn, tz, x, hD'⟩
      refine ⟨rfl, .str abd, rfl, .ref W, rfl, W, 37, rfl, by decide, by decide, x.well, fun r H5 r0 r1 x5 => ?_⟩
      obtain ⟨c, hc, ec⟩ := atI_in (xs := abd.cps.toList) r0 r1
      refine ⟨abd, r, c, rfl, rfl, by decide, ec, _, x5.keep D _ nD.symm hD', ?_, t ++ [c], ?_, ?_, (x.trans x5).mut hD0 nD, ?_⟩
      · rw [List.length_map]
        exact szlt (by omega)
      · rw [List.length_append, tn]
        rfl
      · intro d hd
        rcases List.mem_append.mp hd with h | h
        · exact tz d h
        · rw [List.mem_singleton.mp h]
          exact hc
      · rw [upd_same, List.map_append]
        rfl
    · rintro H' ⟨t, tn, tz, x, hD'⟩
      refine ⟨_, D, t.map fun c => (⟨#[c]⟩ : Str), rfl, rfl, .inl (SqL.of (by rw [hD', List.map_map]; rfl)), ?_, ?_⟩
      · rw [sum_ones, List.length_map]
        show t.length + t.length * 0 ≤ _
        omega
      · rw [join_signs _ rfl]
        exact q _ H' ⟨by rw [mk_len]; omega, asc_mk fun c hc => (by decide : ∀ c ∈ abd.cps.toList, c < 128) c (tz c hc)⟩ x
end
end My
namespace My
open PySem PySem.Spec PyProof.Rows L2 TL
theorem head_atI {α : Type} {xs : List α} {y : α} (h : xs.head? = some y) : atI xs 0 = some y := by
  cases xs with
  | nil => cases h
  | cons a r =>
    cases h
    exact atI_nat (j := 0) rfl
theorem head_map {α β : Type} (f : α → β) {xs : List α} {y : α} (h : xs.head? = some y) : (xs.map f).head? = some (f y) := by
  cases xs with
  | nil => cases h
  | cons a r =>
    cases h
    rfl
section
variable {P : Program} {w : World} {K : PySem.W.Frag} {mg : Str → Option Value} {base : Heap}
def spNames : Sp := fun vs H Q _ => ∃ (W : Addr) (m : Int), vs = [.ref W, .int m] ∧ 0 ≤ m ∧ m ≤ 8 ∧ IsW H W ∧ ∀ (L : Addr) (F : List Str) H', F.length = m.toNat → F.Nodup → (∀ z ∈ F, Nm z) → Wx W H H' → H L = none → H' L = some (.lst (F.map V.str)) → Q (.ref L) H'
theorem ok_law_names (T : Txt K mg) : FnOk P w K mg base CX0 3 T.f_law_names T.fd_law_names ["_law_well_here", "_law_many"] spNames := by
  refine T.d_law_names.F.ok sc_law_names (fun vs H Q E h => ?_) (fun cdv A outer s H vs Q E hr h => ?_)
  · obtain ⟨W, m, rfl, _⟩ := h
    rfl
  · obtain ⟨W, m, rfl, m0, m1, hI, q⟩ := h
    refine ⟨_, (pss_cons (ps_set (i := 2) sc_law_names.nd rfl (.inr rfl) (pe_lst pa_nil))
      (pss_cons (ps_for PassesOwn.never rfl (pi_range1 (by rfl) T.m_range (pa_cons (pv 1) pa_nil)) (pg_name (i := 3) sc_law_names.nd rfl (.inl rfl))
      (pss_cons (ps_set (i := 4) sc_law_names.nd rfl (.inl rfl) (pe_call (ok_law_draw T) (hr.mono (by decide)) (by rfl) T.d_law_draw.g T.d_law_draw.F.kp T.d_law_draw.b .nil pass0 (pa_cons (pv 0) (pa_cons pe_int pa_nil))))
      (pss_cons (ps_set (i := 5) sc_law_names.nd rfl (.inr rfl) (pe_call (ok_law_name T) (hr.mono (by decide)) (by rfl) T.d_law_name.g T.d_law_name.F.kp T.d_law_name.b .nil pass0 (pa_cons (pv 0) pa_nil)))
      (Evl.pss_cut (ps_if (PW.pt (pw_and (pt_cmpR (op_neD hr.units) (pv 2) (pe_lst pa_nil) (nomark _)) (pw_and1 (pt_cmpR op_eq (pv 4) pe_int (nomark _)))))
      (pss_one (ps_set (i := 5) sc_law_names.nd rfl (.inr rfl) (pe_ix ix_list (pv 2) (pe_call (ok_law_draw T) (hr.mono (by decide)) (by rfl) T.d_law_draw.g T.d_law_draw.F.kp T.d_law_draw.b .nil pass0 (pa_cons (pv 0) (pa_cons (pe_callB call_len_seq (by rfl) T.m_len (by decide +kernel) (pa_cons (pv 2) pa_nil)) pa_nil))) (fun _ _ => rfl))))
      pss_nil)
      (pss_cons (ps_set (i := 6) sc_law_names.nd rfl (.inl rfl) (pe_op op_cat (pe_lst (pa_cons (pv 5) pa_nil)) (pe_lc (own := [("_law_sign", 7)]) (g := gName 7) (tt := tYes) (by rfl) sc_law_names.nd (pi_str pe_str) (blkOk_by (own := [("_law_sign", 7)]) (N := ["_law_well_here", "_law_many", "_law_found", "_law_k", "_law_near", "_law_name_here", "_law_some", "_law_sign", "_law_one"]) (sc := defScope s_law_names) (by decide +kernel)) (fun _ _ _ _ _ => (pg_name (i := 7) sc_law_names.nd rfl (Or.inl rfl))) (fun _ _ _ _ _ => pts_nil) (fun _ _ _ _ _ => (pe_op op_add_str (pe_slice sl_str (pv 5) po_none (po_some pe_int)) (pv 7))))))
      (pss_one (ps_expr (pe_bm PySem.F.plainAttrs_list PySem.F.slot_list_append PySem.F.type_list_append mt_append (pv 2) (pa_cons (pe_ix ix_list (pe_lc (own := [("_law_one", 8)]) (g := gName 8) (tt := tTest (tOp (rIn K true) (tVar 8) (tVar 2))) (by rfl) sc_law_names.nd (pi_list (pv 6)) (blkOk_by (own := [("_law_one", 8)]) (N := ["_law_well_here", "_law_many", "_law_found", "_law_k", "_law_near", "_law_name_here", "_law_some", "_law_sign", "_law_one"]) (sc := defScope s_law_names) (by decide +kernel)) (fun _ _ _ _ _ => (pg_name (i := 8) sc_law_names.nd rfl (Or.inl rfl))) (fun _ _ _ _ _ => (pts_one (pt_cmpR op_notIn_seq (pv 8) (pv 2) rfl))) (fun _ _ _ _ _ => (pv 8))) pe_int (fun _ _ => rfl)) pa_nil)))))))))
      (pss_one (ps_ret (pv 2))))), ?_⟩
    refine ⟨Nat.zero_le _, fun L hL => ?_⟩
    have nL : W ≠ L := hI.ne hL
    refine ⟨.int m, rfl, m, rfl, by omega, by omega, for_range (lo := 0) (n := m.toNat) (fun i σ H' => ∃ F : List Str, F.length = i ∧ F.Nodup ∧ (∀ z ∈ F, Nm z) ∧ Wx W H H' ∧ H' L = some (.lst (F.map V.str)) ∧ ∃ y3 y4 y5 y6, σ = [some (.ref W), some (.int m), some (.ref L), y3, y4, y5, y6, none, none])
      ⟨[], rfl, List.nodup_nil, (fun _ h => nomatch h), (Wx.refl hI).new hL, upd_same, none, none, none, none, rfl⟩ ?_ ?_⟩
    · rintro i σ H' hi ⟨F, fn, fd, fz, x, eL, y3, y4, y5, y6, rfl⟩
      have fa : ∀ z ∈ F, Asc z := fun z hz => (fz z hz).2.2
      refine ⟨.ref W, rfl, W, 3, rfl, by decide, by decide, x.well, fun r1 H1 r10 r11 x1 => ?_⟩
      refine ⟨.ref W, rfl, W, rfl, x1.well, fun z H2 hz x2 => ?_⟩
      have eL2 := x2.keep L _ nL.symm (x1.keep L _ nL.symm eL)
      have xx := (x.trans x1).trans x2
      refine ⟨fun σ' H' => ∃ z', Nm z' ∧ Wx W H H' ∧ H' L = some (.lst (F.map V.str)) ∧ σ' = [some (.ref W), some (.int m), some (.ref L), some (.int (0 + (i : Int))), some (.int r1), some (.str z'), y6, none, none], ?_, ?_⟩
      · refine ⟨.ref L, rfl, Nat.zero_le _, fun p hp => ⟨.list (F.map PyData.str), .list [], .lst (SqL.of ((same_upd hp) _ _ eL2)) (dp_strs F), .lst (SqL.of upd_same) .nil, shaped_strs F fa, by decide, ?_⟩⟩
        have xp := xx.new (o := .lst []) hp
        have eLp := (same_upd (o := .lst []) hp) _ _ eL2
        cases F with
        | nil => exact ⟨false, by decide, z, hz, xp, eLp, rfl⟩
        | cons f0 F0 =>
          refine ⟨true, by simp [PyData.eqv, PyData.eqvAll], ?_⟩
          refine ⟨.int r1, rfl, rfl, _, rfl, ite2 (fun e => ?_) (fun e => ?_)⟩
          · refine ⟨.ref L, rfl, .ref W, rfl, .ref L, rfl, L, _, rfl, .inl (SqL.of eLp), W, _, rfl, by rw [List.length_map, List.length_cons]; omega, by rw [List.length_map]; omega, xp.well, fun r H3 r0 r1' x3 => ?_⟩
            obtain ⟨n, hn, en⟩ := strs_at (ns := f0 :: F0) r0 (by rw [List.length_map] at r1'; exact r1')
            exact ⟨L, _, r, _, rfl, rfl, SqL.of (x3.keep L _ nL.symm eLp), en, n, fz n hn, xp.trans x3, x3.keep L _ nL.symm eLp, rfl⟩
          · exact ⟨z, hz, xp, eLp, rfl⟩
      · rintro σ' H3 ⟨z', hz', x3, eL3, rfl⟩
        have lz := hz'.2.1
        refine ⟨.str z', rfl, (by show 1 ≤ sizeLine; decide), fun p1 h1 => ?_⟩
        have s1 : Same H3 (upd H3 p1 (.lst [.str z'])) := same_upd h1
        refine ⟨abc, rfl, fun D hD => ?_⟩
        refine lc_it walk_str (fun i H' => Same (upd H3 p1 (.lst [.str z'])) H' ∧ H' D = some (.lst ((abc.cps.toList.take i).map fun c => V.str (cutS z' none (some 7) ++ ⟨#[c]⟩)))) ⟨same_upd hD, upd_same⟩ (fun _ _ _ _ => trivial) ?_ ?_
        · rintro j v H4 H5 hj ⟨sm, eD⟩ ⟨rfl, c, hc, rfl⟩
          have h7 := cut7_len z'
          refine ⟨rfl, .str z', rfl, 7, rfl, z', rfl, szl (by omega), _, rfl, _, _, rfl, rfl, ?_, _, eD, ?_, same_mut sm hD, ?_⟩
          · have e : (⟨#[c]⟩ : Str).length = 1 := rfl
            exact szl (by omega)
          · rw [List.length_map, List.length_take, len_tl]
            exact szlt (by have : abc.length = 26 := by decide
                           omega)
          · rw [upd_same, take_map _ (at_l hc)]
        · rintro H4 ⟨sm, eD⟩
          have eD' : H4 D = some (.lst ((cands z').map V.str)) := by
            rw [eD, List.take_of_length_le (show abc.cps.toList.length ≤ abc.cps.size from Nat.le_of_eq (len_tl abc))]
            unfold cands
            rw [List.map_map]
            rfl
          have lc : (cands z').length = 26 := by
            unfold cands
            rw [List.length_map]
            decide
          refine ⟨p1, D, _, _, rfl, rfl, sm _ _ upd_same, eD', by rw [List.length_map, lc]; show 1 + 26 ≤ sizeLine; decide, fun p2 h2 => ?_⟩
          have s2 := same_upd (o := .lst ([.str z'] ++ (cands z').map V.str)) h2
          have e2 : (upd H4 p2 (.lst ([.str z'] ++ (cands z').map V.str))) p2 = some (.lst ((z' :: cands z').map V.str)) := upd_same
          have s3 := (s1.trans sm).trans s2
          have eL5 := s3 _ _ eL3
          refine ⟨.ref L, rfl, .inl ⟨rfl, _, SqL.of eL5⟩, .ref p2, rfl, p2, rfl, ⟨_, SqL.of e2⟩, fun D2 hD2 => ?_⟩
          refine lc_list (K := K) (a := p2) (xs := (z' :: cands z').map V.str) (fun j H' => Same (upd H4 p2 (.lst ([.str z'] ++ (cands z').map V.str))) H' ∧ H' D2 = some (.lst ((((z' :: cands z').take j).filter fun y => !decide (y ∈ F)).map V.str))) ⟨same_upd hD2, upd_same⟩ (fun j H' _ pv => SqL.of (pv.1 _ _ e2)) ?_ ?_
          · rintro j v H5 hv ⟨sm5, eD5⟩
            obtain ⟨y, rfl, hy, my⟩ := str_at hv
            have hf := filter_take (fun y => !decide (y ∈ F)) V.str hy
            refine ⟨rfl, .str y, rfl, .ref L, rfl, L, _, rfl, .inl (SqL.of (sm5 _ _ eL5)), rfl, flat_strs F, _, rfl, ?_⟩
            show if (!inV (.str y) (F.map V.str)) = true then _ else _
            rw [inV_strs]
            refine ite2 (fun e4 => ?_) (fun e4 => ?_)
            · rw [if_pos e4] at hf
              refine ⟨_, rfl, _, eD5, ?_, same_mut sm5 hD2, ?_⟩
              · rw [List.length_map]
                have h1 := List.length_filter_le (fun y => !decide (y ∈ F)) ((z' :: cands z').take j)
                rw [List.length_take, List.length_cons, lc] at h1
                exact szlt (by omega)
              · rw [upd_same, hf]
            · rw [if_neg e4, List.append_nil] at hf
              exact ⟨sm5, by rw [hf]; exact eD5⟩
          · rintro H5 ⟨sm5, eD5⟩
            rw [List.take_of_length_le (by rw [List.length_map]; exact Nat.le_refl _)] at eD5
            obtain ⟨y, hy, ny, my⟩ := pick (F := F) hz' (by omega)
            refine ⟨D2, _, 0, _, rfl, rfl, SqL.of eD5, head_atI (head_map V.str hy), L, _, _, rfl, rfl, sm5 _ _ eL5, by rw [List.length_map]; exact szlt (by omega), F ++ [y], by rw [List.length_append, fn]; rfl, ?_, ?_, (x3.same (s3.trans sm5)).mut hL nL, by rw [upd_same, List.map_append]; rfl, _, _, _, _, rfl⟩
            · rw [List.nodup_append]
              refine ⟨fd, by simp, fun a ha b hb => ?_⟩
              rw [List.mem_singleton.mp hb]
              intro e
              exact ny (e ▸ ha)
            · intro u hu
              rcases List.mem_append.mp hu with h | h
              · exact fz u h
              · rw [List.mem_singleton.mp h]
                exact my
    · rintro σ H' ⟨F, fn, fd, fz, x, eL, y3, y4, y5, y6, rfl⟩
      exact ⟨.ref L, rfl, q L F H' fn fd fz x hL eL⟩
end
end My
namespace My
open PySem PySem.Spec PyProof.Rows L2 TL
/-! ### pairs of texts in the heap -/
def Pr (H : Hp) (v : V) (kw : Str × Str) : Prop := ∃ t : Addr, v = .ref t ∧ H t = some (.tup [.str kw.1, .str kw.2])
theorem Pr.mono {H H' : Hp} {v : V} {kw : Str × Str} (e : Same H H') (h : Pr H v kw) : Pr H' v kw := by
  obtain ⟨t, rfl, h⟩ := h
  exact ⟨t, rfl, e _ _ h⟩
theorem prs_mono {H H' : Hp} {xs : List V} {rs : List (Str × Str)} (e : Same H H') (h : Paired (Pr H) xs rs) : Paired (Pr H') xs rs := Paired.mono (fun _ _ => Pr.mono e) h
theorem paired_map {α β γ : Type} {R : β → γ → Prop} (f : α → β) (g : α → γ) : ∀ l : List α, (∀ a ∈ l, R (f a) (g a)) → Paired R (l.map f) (l.map g)
  | [], _ => .nil
  | a :: l, h => .cons (h a (List.mem_cons_self ..)) (paired_map f g l fun b hb => h b (List.mem_cons_of_mem _ hb))
theorem paired_app {α β : Type} {R : α → β → Prop} : ∀ {a : List α} {b : List β} {c : List α} {d : List β}, Paired R a b → Paired R c d → Paired R (a ++ c) (b ++ d)
  | _, _, _, _, .nil, h => h
  | _, _, _, _, .cons x t, h => .cons x (paired_app t h)
theorem paired_take {α β : Type} {R : α → β → Prop} : ∀ {a : List α} {b : List β} (n : Nat), Paired R a b → Paired R (a.take n) (b.take n)
  | _, _, 0, _ => by
    rw [List.take_zero, List.take_zero]
    exact .nil
  | _, _, n + 1, .nil => .nil
  | _, _, n + 1, .cons x t => .cons x (paired_take n t)
theorem paired_drop {α β : Type} {R : α → β → Prop} : ∀ {a : List α} {b : List β} (n : Nat), Paired R a b → Paired R (a.drop n) (b.drop n)
  | _, _, 0, h => h
  | _, _, n + 1, .nil => .nil
  | _, _, n + 1, .cons x t => paired_drop n t
theorem paired_at {α β : Type} {R : α → β → Prop} : ∀ {a : List α} {b : List β}, Paired R a b → ∀ {i : Nat} {x : α}, a[i]? = some x → ∃ y, b[i]? = some y ∧ R x y
  | _, _, .nil, i, x, h => by simp at h
  | _, _, .cons (a := u) (b := v) r t, 0, x, h => by
    cases h
    exact ⟨v, rfl, r⟩
  | _, _, .cons r t, i + 1, x, h => paired_at t h
/-! ### the row, by inserting -/
def nz (kw : Str × Str) : Bool := !decide (V.str kw.2 = V.str "")
def ins (l : List (Str × Str)) (x : Str × Str) : List (Str × Str) := l.take ((l.filter fun y => decide (ltS y.1 x.1)).length) ++ [x] ++ l.drop ((l.filter fun y => decide (ltS y.1 x.1)).length)
def SrtN (l : List (Str × Str)) : Prop := l.Pairwise fun p q => ltS p.1 q.1
theorem ins_cons_lt {y x : Str × Str} {l : List (Str × Str)} (h : ltS y.1 x.1) : ins (y :: l) x = y :: ins l x := by
  unfold ins
  rw [List.filter_cons_of_pos (by simpa using h), List.length_cons, List.take_succ_cons, List.drop_succ_cons]
  rfl
theorem ins_cons_ge {y x : Str × Str} {l : List (Str × Str)} (hs : SrtN (y :: l)) (h : ¬ ltS y.1 x.1) : ins (y :: l) x = x :: y :: l := by
  unfold ins
  have e : (y :: l).filter (fun y => decide (ltS y.1 x.1)) = [] := by
    rw [List.filter_eq_nil_iff]
    intro z hz
    rcases List.mem_cons.mp hz with rfl | hz
    · simpa using h
    · have h1 := (List.pairwise_cons.mp hs).1 z hz
      intro h2
      exact h (ltS_trans h1 (by simpa using h2))
  rw [e]
  rfl
theorem ins_perm : ∀ (l : List (Str × Str)) (x : Str × Str), (ins l x).Perm (x :: l) := by
  intro l x
  unfold ins
  have h := List.perm_middle (a := x) (l₁ := l.take ((l.filter fun y => decide (ltS y.1 x.1)).length)) (l₂ := l.drop ((l.filter fun y => decide (ltS y.1 x.1)).length))
  rw [List.take_append_drop] at h
  rw [List.append_assoc]
  exact h
theorem ins_sorted : ∀ (l : List (Str × Str)) (x : Str × Str), SrtN l → (∀ y ∈ l, y.1 ≠ x.1) → SrtN (ins l x)
  | [], x, _, _ => by
    show SrtN [x]
    exact List.pairwise_singleton _ _
  | y :: l, x, hs, hn => by
    by_cases h : ltS y.1 x.1
    · rw [ins_cons_lt h]
      refine List.pairwise_cons.mpr ⟨fun z hz => ?_, ins_sorted l x (List.pairwise_cons.mp hs).2 fun z hz => hn z (List.mem_cons_of_mem _ hz)⟩
      rcases List.mem_cons.mp ((ins_perm l x).mem_iff.mp hz) with rfl | hz
      · exact h
      · exact (List.pairwise_cons.mp hs).1 z hz
    · rw [ins_cons_ge hs h]
      have hxy : ltS x.1 y.1 := by
        rcases ltS_tri x.1 y.1 with e | e | e
        · exact e
        · exact absurd e.symm (hn y (List.mem_cons_self ..))
        · exact absurd e h
      refine List.pairwise_cons.mpr ⟨fun z hz => ?_, hs⟩
      rcases List.mem_cons.mp hz with rfl | hz
      · exact hxy
      · exact ltS_trans hxy ((List.pairwise_cons.mp hs).1 z hz)
def insAll (F : List (Str × Str)) : List (Str × Str) := F.foldl ins []
theorem insAll_snoc (F : List (Str × Str)) (x : Str × Str) : insAll (F ++ [x]) = ins (insAll F) x := by
  unfold insAll
  rw [List.foldl_append]
  rfl
theorem snoc_ind {α : Type} {p : List α → Prop} (h0 : p []) (hs : ∀ l x, p l → p (l ++ [x])) : ∀ l, p l := fun l => by
  have key : ∀ n : Nat, p (l.take n) := by
    intro n
    induction n with
    | zero => exact h0
    | succ n ih =>
      rw [List.take_add_one]
      cases e : l[n]? with
      | none =>
        show p (l.take n ++ [])
        rw [List.append_nil]
        exact ih
      | some x => exact hs _ x ih
  have h := key l.length
  rw [List.take_length] at h
  exact h
theorem insAll_perm : ∀ F : List (Str × Str), (insAll F).Perm F :=
  snoc_ind (.refl _) fun l x ih => by
    rw [insAll_snoc]
    exact (ins_perm _ _).trans ((ih.cons x).trans (List.perm_append_comm (l₁ := [x]) (l₂ := l)))
theorem insAll_sorted : ∀ F : List (Str × Str), (F.map (·.1)).Nodup → SrtN (insAll F) :=
  snoc_ind (fun _ => List.Pairwise.nil) fun l x ih hn => by
    rw [List.map_append, List.nodup_append] at hn
    rw [insAll_snoc]
    refine ins_sorted _ _ (ih hn.1) fun y hy e => ?_
    exact hn.2.2 y.1 (List.mem_map.mpr ⟨y, (insAll_perm l).mem_iff.mp hy, rfl⟩) x.1 (List.mem_map.mpr ⟨x, List.mem_singleton.mpr rfl, rfl⟩) e
theorem nodup_filter {kws : List (Str × Str)} (h : (kws.map (·.1)).Nodup) (p : Str × Str → Bool) : ((kws.filter p).map (·.1)).Nodup := List.Pairwise.sublist (List.Sublist.map _ List.filter_sublist) h
/-- what is sorted is what is inserted -/
theorem row_eq {rs F : List (Str × Str)} (hn : (F.map (·.1)).Nodup) (hp : rs.Perm F) (hs : rs.Pairwise leSS) : rs = insAll F :=
  perm_sorted_eq leSS_anti rs (insAll F) hs ((insAll_sorted F hn).imp fun h => .inl h) (hp.trans (insAll_perm F).symm)
/-! ### pairs as data -/
def pd (kw : Str × Str) : PyData := .tuple [.str kw.1, .str kw.2]
theorem dp_prs {K : PySem.W.Frag} {H : Hp} : ∀ {xs : List V} {rs : List (Str × Str)}, Paired (Pr H) xs rs → DpAll K H xs (rs.map pd)
  | _, _, .nil => .nil
  | _, _, .cons h t => by
    obtain ⟨a, rfl, h⟩ := h
    exact .cons (.tup (SqT.of h) (.cons (.str _) (.cons (.str _) .nil))) (dp_prs t)
theorem lay_prs : ∀ rs : List (Str × Str), (∀ r ∈ rs, Asc r.1 ∧ Asc r.2) → PyData.canLayAll0 (rs.map pd) = true
  | [], _ => rfl
  | r :: t, h => by
    have h1 := h r (List.mem_cons_self ..)
    simp [PyData.canLayAll0, PyData.canLay0, pd, ok_asc h1.1, ok_asc h1.2, lay_prs t fun y hy => h y (List.mem_cons_of_mem _ hy)]
theorem depth_prs : ∀ rs : List (Str × Str), PyData.depthAll (rs.map pd) ≤ 1
  | [] => Nat.zero_le _
  | r :: t => by
    have := depth_prs t
    simp only [List.map_cons, PyData.depthAll, pd, PyData.depth]
    show max _ _ ≤ 1
    have e : max 0 (max 0 0) + 1 = 1 := rfl
    omega
theorem shaped_row {rs : List (Str × Str)} (h : ∀ r ∈ rs, Asc r.1 ∧ Asc r.2) : SeqAt.shaped (.tuple (rs.map pd)) = true := by
  have := depth_prs rs
  simp only [SeqAt.shaped, PyData.canLay0, PyData.depth, lay_prs rs h, Bool.true_and]
  exact decide_eq_true (by omega)
theorem shaped_lst {rs : List (Str × Str)} (h : ∀ r ∈ rs, Asc r.1 ∧ Asc r.2) : SeqAt.shaped (.list (rs.map pd)) = true := by
  have := depth_prs rs
  simp only [SeqAt.shaped, PyData.canLay0, PyData.depth, lay_prs rs h, Bool.true_and]
  exact decide_eq_true (by omega)
theorem eqv_row {rs : List (Str × Str)} (h : ∀ r ∈ rs, Asc r.1 ∧ Asc r.2) : PyData.eqv (.tuple (rs.map pd)) (.tuple (rs.map pd)) = true := SeqAt.eqv_refl _ (by simp [PyData.canLay0, lay_prs rs h])
theorem eqv_lst {rs : List (Str × Str)} (h : ∀ r ∈ rs, Asc r.1 ∧ Asc r.2) : PyData.eqv (.list (rs.map pd)) (.list (rs.map pd)) = true := SeqAt.eqv_refl _ (by simp [PyData.canLay0, lay_prs rs h])
/-! ### a dict that was locked -/
theorem unlock_same {H H' : Hp} {d : Addr} {u : HO} {od : Obj} (hd : H d = some u) (s : Same (upd H d (.frz od u)) H') : Same H (upd H' d u) := fun b o e => by
  by_cases hb : b = d
  · subst hb
    rw [upd_same]
    exact hd.symm.trans e
  · rw [upd_ne hb]
    exact s b o (by rw [upd_ne hb]; exact e)
def kvOf (kw : Str × Str) : Key × V := (Sum.inr kw.1, .str kw.2)
section
variable {P : Program} {w : World} {K : PySem.W.Frag} {mg : Str → Option Value} {base : Heap}
def spHeads : Sp := fun vs H Q _ => ∃ (d : Addr) (kws : List (Str × Str)), vs = [.ref d] ∧ H d = some (.dK (kws.map kvOf)) ∧ kws.length ≤ 1000 ∧
  ∀ p xs rs H', Same H H' → H' p = some (.tup xs) → Paired (Pr H') xs rs → rs.Perm (kws.filter nz) → rs.Pairwise leSS → Q (.ref p) H'
theorem ok_heads_row (T : Txt K mg) : FnOk P w K mg base CX0 1 T.f_heads_row T.fd_heads_row ["heads"] spHeads := by
  refine T.d_heads_row.F.ok sc_heads_row (fun vs H Q E h => ?_) (fun cdv A outer s H vs Q E hr h => ?_)
  · obtain ⟨d, kws, rfl, _⟩ := h
    rfl
  · obtain ⟨d, kws, rfl, hd, hlen, q⟩ := h
    refine ⟨_, (pss_one (ps_ret (pe_callTy call_tuple_of (by rfl) T.m_tuple (by decide +kernel) (pa_cons (pe_callB (cr_sortB (fun b : Addr × Str × Str => V.ref b.1) (fun b => .tuple [.str b.2.1, .str b.2.2]) hr.units) (by rfl) T.m_sorted (by decide +kernel) (pa_cons (pe_lock (pe_lc (own := [("name", 1), ("worth", 2)]) (g := gTup K 2 (gCons (gName 1) (gCons (gName 2) gNil))) (by rfl) sc_heads_row.nd (pi_items (pv 0)) (blkOk_by (own := [("name", 1), ("worth", 2)]) (N := ["heads", "name", "worth"]) (sc := defScope s_heads_row) (by decide +kernel)) (fun _ _ _ _ _ => (pg_tup rfl (pgs_cons (pg_name (i := 1) sc_heads_row.nd rfl (Or.inl rfl)) (pgs_cons (pg_name (i := 2) sc_heads_row.nd rfl (Or.inl rfl)) pgs_nil)))) (fun _ _ _ _ _ => (pts_one (pt_cmpR op_ne (pv 2) pe_str (nomark _)))) (fun _ _ _ _ _ => (pe_tup (pa_cons (pv 1) (pa_cons (pv 2) pa_nil)))))) pa_nil)) pa_nil)))), ?_⟩
    refine ⟨d, _, hd, trivial, fun od => ?_⟩
    have hd' : (upd H d (.frz od (.dK (kws.map kvOf)))) d = some (.frz od (.dK (kws.map kvOf))) := upd_same
    refine ⟨.ref d, rfl, d, od, _, rfl, hd', fun D hD => ?_⟩
    refine lc_it walk_items (fun i H' => Same (upd H d (.frz od (.dK (kws.map kvOf)))) H' ∧ ∃ bs : List (Addr × Str × Str), H' D = some (.lst (bs.map fun b => V.ref b.1)) ∧ bs.map (·.2) = (kws.take i).filter nz ∧ ∀ b ∈ bs, H' b.1 = some (.tup [.str b.2.1, .str b.2.2]) ∧ b.1 ≠ D)
      ⟨same_upd hD, [], upd_same, rfl, fun _ h => nomatch h⟩ (fun i H' _ pv => pv.1 _ _ hd') ?_ ?_
    · rintro i x H1 H2 hi ⟨sm, bs, eD, eb, hb⟩ ⟨Tt, x1, x2, rfl, nT, rfl, f1, f2⟩
      rw [List.length_map] at hi
      have hk : kws[i]? = some kws[i] := List.getElem?_eq_getElem hi
      dsimp only at f1 f2
      rw [List.getElem?_map, hk] at f1 f2
      have e1 : .str kws[i].1 = x1 := Option.some.inj f1
      have e2 : .str kws[i].2 = x2 := Option.some.inj f2
      subst e1
      subst e2
      have sT : Same H1 (upd H1 Tt (.tup [.str kws[i].1, .str kws[i].2])) := same_upd nT
      have hf : (kws.take (i + 1)).filter nz = (kws.take i).filter nz ++ (if nz kws[i] = true then [kws[i]] else []) := by
        have := filter_take nz id hk
        simpa using this
      refine ⟨Tt, _, rfl, .inl (.inl upd_same), rfl, _, _, rfl, _, _, rfl, rfl, rfl, _, rfl, rfl, _, rfl, ?_⟩
      show if nz kws[i] = true then _ else _
      refine ite2 (fun e => ?_) (fun e => ?_)
      · rw [if_pos e] at hf
        refine ⟨_, rfl, _, rfl, (by show 2 ≤ sizeLine; decide), fun p hp => ?_⟩
        have sp := same_upd (o := .tup [.str kws[i].1, .str kws[i].2]) hp
        have np : p ≠ D := (ne_of_none (sT _ _ eD) hp).symm
        refine ⟨_, sp _ _ (sT _ _ eD), ?_, same_mut ((sm.trans sT).trans sp) hD, bs ++ [(p, kws[i])], ?_, ?_, ?_⟩
        · rw [List.length_map]
          have h1 : (bs.map (·.2)).length = ((kws.take i).filter nz).length := by rw [eb]
          have h2 := List.length_filter_le nz (kws.take i)
          rw [List.length_map] at h1
          rw [List.length_take] at h2
          exact szlt (by omega)
        · rw [upd_same, List.map_append]
          rfl
        · rw [List.map_append, hf, eb]
          rfl
        · intro b hb'
          rcases List.mem_append.mp hb' with h | h
          · obtain ⟨h1, h2⟩ := hb b h
            exact ⟨by rw [upd_ne h2]; exact sp _ _ (sT _ _ h1), h2⟩
          · rw [List.mem_singleton.mp h]
            exact ⟨by rw [upd_ne np]; exact upd_same, np⟩
      · rw [if_neg e, List.append_nil] at hf
        refine ⟨sm.trans sT, bs, sT _ _ eD, by rw [hf]; exact eb, fun b hb' => ⟨sT _ _ (hb b hb').1, (hb b hb').2⟩⟩
    · rintro H1 ⟨sm, bs, eD, eb, hb⟩
      have nDd : D ≠ d := (ne_of_none hd' hD).symm
      have h1d := sm _ _ hd'
      refine ⟨h1d, ?_⟩
      have su := unlock_same hd sm
      have hbd : ∀ b ∈ bs, (upd H1 d (.dK (kws.map kvOf))) b.1 = some (.tup [.str b.2.1, .str b.2.2]) := fun b hb' => by
        have h1 := (hb b hb').1
        rw [upd_ne (fun z => by rw [z, h1d] at h1; cases h1)]
        exact h1
      refine ⟨D, bs, rfl, SqL.of (by rw [upd_ne nDd]; exact eD), fun b hb' => .tup (SqT.of (hbd b hb')) (.cons (.str _) (.cons (.str _) .nil)), PySem.W.AllAlike.of (fun b b' => by simp [PySem.W.alike, PySem.W.alikeAll]), PySem.W.Sortable.tuples (fun b => ⟨_, _, rfl⟩), fun b _ => by simp [PyData.depth, PyData.depthAll], fun p hp => ?_⟩
      refine ⟨p, _, rfl, .inl ⟨SqL.of upd_same, fun l hl => ?_⟩⟩
      rw [List.length_map, List.take_length] at eb
      have s2 := same_upd (o := .lst ((sortB (fun b : Addr × Str × Str => .tuple [.str b.2.1, .str b.2.2]) bs).map fun b => V.ref b.1)) hp
      have s3 := same_upd (o := .tup ((sortB (fun b : Addr × Str × Str => .tuple [.str b.2.1, .str b.2.2]) bs).map fun b => V.ref b.1)) hl
      refine q l _ ((sortB (fun b : Addr × Str × Str => .tuple [.str b.2.1, .str b.2.2]) bs).map (·.2)) _ ((su.trans s2).trans s3) upd_same ?_ ?_ ?_
      · refine paired_map _ _ _ fun b hb' => ⟨b.1, rfl, s3 _ _ (s2 _ _ (hbd b ((sortB_perm _ bs).mem_iff.mp hb')))⟩
      · rw [← eb]
        exact (sortB_perm _ bs).map _
      · exact List.pairwise_map.mpr ((sortB_sorted _ bs).imp fun {a b} h => dataLe_ss (fun b : Addr × Str × Str => b.2.1) (fun b => b.2.2) a b h)
def look (rs : List (Str × Str)) (n : Str) : Str := ((rs.find? fun r => decide (r.1 = n)).map (·.2)).getD ""
def spWorthOf : Sp := fun vs H Q _ => ∃ (p : Addr) (xs : List V) (rs : List (Str × Str)) (n : Str), vs = [.ref p, .str n] ∧ H p = some (.tup xs) ∧ Paired (Pr H) xs rs ∧ Q (.str (look rs n)) H
theorem look_none {rs : List (Str × Str)} {n : Str} (h : ∀ r ∈ rs, r.1 ≠ n) : look rs n = "" := by
  unfold look
  rw [List.find?_eq_none.mpr fun r hr => by simpa using h r hr]
  rfl
theorem look_at {rs : List (Str × Str)} {n : Str} {i : Nat} {r : Str × Str} (h : rs[i]? = some r) (e : r.1 = n) (hb : ∀ r ∈ rs.take i, r.1 ≠ n) : look rs n = r.2 := by
  unfold look
  have hs : rs = rs.take i ++ r :: rs.drop (i + 1) := by
    have hi := (List.getElem?_eq_some_iff.mp h)
    obtain ⟨hi, he⟩ := hi
    rw [← he, List.getElem_cons_drop, List.take_append_drop]
  rw [hs, List.find?_append, List.find?_eq_none.mpr fun r hr => by simpa using hb r hr, List.find?_cons_of_pos (by simpa using e)]
  rfl
theorem ok_worth_of (T : Txt K mg) : FnOk P w K mg base CX0 1 T.f_worth_of T.fd_worth_of ["row", "name"] spWorthOf := by
  refine T.d_worth_of.F.ok sc_worth_of (fun vs H Q E h => ?_) (fun cdv A outer s H vs Q E hr h => ?_)
  · obtain ⟨p, xs, rs, n, rfl, _⟩ := h
    rfl
  · obtain ⟨p, xs, rs, n, rfl, hp, hx, q⟩ := h
    refine ⟨_, (pss_cons (ps_for PassesOwn.never rfl (pi_tup (pv 0)) (pg_tup rfl (pgs_cons (pg_name (i := 2) sc_worth_of.nd rfl (.inl rfl)) (pgs_cons (pg_name (i := 3) sc_worth_of.nd rfl (.inl rfl)) pgs_nil)))
      (pss_one (ps_if (pt_cmpR op_eq (pv 2) (pv 1) (nomark _))
      (pss_one (ps_ret (pv 3)))
      pss_nil)))
      (pss_one (ps_ret pe_str))), ?_⟩
    refine ⟨.ref p, rfl, p, rfl, ⟨_, SqT.of hp⟩, for_tup (K := K) (xs := xs) (fun i σ H' => H' = H ∧ (∀ r ∈ rs.take i, r.1 ≠ n) ∧ ∃ y2 y3, σ = [some (.ref p), some (.str n), y2, y3])
      ⟨rfl, (fun _ h => by rw [List.take_zero] at h; cases h), none, none, rfl⟩ (fun i σ H' _ pv => by rw [pv.1]; exact SqT.of hp) ?_ ?_⟩
    · rintro i x σ H1 hi ⟨rfl, hb, y2, y3, rfl⟩
      obtain ⟨r, hr, t, rfl, ht⟩ := paired_at hx hi
      refine ⟨t, _, rfl, SqT.of ht, rfl, _, _, rfl, _, _, rfl, rfl, ?_⟩
      refine ⟨_, rfl, _, rfl, rfl, _, rfl, ite2 (fun e => ?_) (fun e => ?_)⟩
      · have e1 : r.1 = n := V.str.inj (of_decide_eq_true e)
        rw [look_at hr e1 hb] at q
        exact ⟨_, rfl, q⟩
      · refine ⟨rfl, fun r' hr' => ?_, _, _, rfl⟩
        rw [List.take_add_one, hr] at hr'
        rcases List.mem_append.mp hr' with h | h
        · exact hb r' h
        · rw [List.mem_singleton.mp h]
          exact fun z => e (decide_eq_true (congrArg V.str z))
    · rintro σ H1 ⟨rfl, hb, y2, y3, rfl⟩
      have hl : xs.length = rs.length := Paired.length hx
      rw [hl, List.take_length] at hb
      rw [look_none hb] at q
      exact q
end
end My
namespace My
open PySem PySem.Spec PyProof.Rows L2 TL
theorem kit_str {K : PySem.W.Frag} : PySem.W.kitOne K (.type "str") (.type "str") = some true := kit_ty (by decide +kernel)
theorem kit_tup {K : PySem.W.Frag} : PySem.W.kitOne K (.type "tuple") (.type "tuple") = some true := kit_ty (by decide +kernel)
/-- a list that is no pair changes -/
theorem Pr.upd {H : Hp} {D : Addr} {u o : HO} {v : V} {kw : Str × Str} (hD : H D = some u) (hu : ∀ xs, u ≠ .tup xs) (h : Pr H v kw) : Pr (upd H D o) v kw := by
  obtain ⟨t, rfl, h⟩ := h
  refine ⟨t, rfl, ?_⟩
  rw [upd_ne]
  · exact h
  · intro z
    rw [z, hD] at h
    exact hu _ (Option.some.inj h)
theorem prs_upd {H : Hp} {D : Addr} {u o : HO} {xs : List V} {rs : List (Str × Str)} (hD : H D = some u) (hu : ∀ xs, u ≠ .tup xs) (h : Paired (Pr H) xs rs) : Paired (Pr (upd H D o)) xs rs := Paired.mono (fun _ _ => Pr.upd hD hu) h
theorem prs_wx {W : Addr} {H H' : Hp} {xs : List V} {rs : List (Str × Str)} (hI : IsW H W) (x : Wx W H H') (h : Paired (Pr H) xs rs) : Paired (Pr H') xs rs :=
  Paired.mono (fun v kw h => by
    obtain ⟨t, rfl, h⟩ := h
    refine ⟨t, rfl, x.keep t _ (fun z => ?_) h⟩
    obtain ⟨a, b, c, hw⟩ := hI
    rw [z, hw] at h
    cases h) h
theorem paired_insert {H : Hp} {ys : List V} {R : List (Str × Str)} {v : V} {r : Str × Str} (h : Paired (Pr H) ys R) (hv : Pr H v r) (k : Nat) : Paired (Pr H) (ys.take k ++ [v] ++ ys.drop k) (R.take k ++ [r] ++ R.drop k) :=
  paired_app (paired_app (paired_take k h) (.cons hv .nil)) (paired_drop k h)
section
variable {P : Program} {w : World} {K : PySem.W.Frag} {mg : Str → Option Value} {base : Heap}
def spRow (K : PySem.W.Frag) : Sp := fun vs H Q _ => ∃ (a : Addr) (xs : List V) (kws : List (Str × Str)), vs = [.ref a] ∧ H a = some (.lst xs) ∧ Paired (Pr H) xs kws ∧ kws.length ≤ 1000 ∧
  ∀ p ys H', Same H H' → H' p = some (.tup ys) → Paired (Pr H') ys (insAll (kws.filter nz)) → Q (.ref p) H'
theorem ins_len (R : List (Str × Str)) (x : Str × Str) : (ins R x).length = R.length + 1 := (ins_perm R x).length_eq
theorem ok_law_row (T : Txt K mg) : FnOk P w K mg base CX0 1 T.f_law_row T.fd_law_row ["_law_pairs"] (spRow K) := by
  refine T.d_law_row.F.ok sc_law_row (fun vs H Q E h => ?_) (fun cdv A outer s H vs Q E hr h => ?_)
  · obtain ⟨a, xs, kws, rfl, _⟩ := h
    rfl
  · obtain ⟨a, xs, kws, rfl, ha, hx, hlen, q⟩ := h
    refine ⟨_, (pss_cons (ps_set (i := 1) sc_law_row.nd rfl (.inl rfl) (pe_lst pa_nil))
      (pss_cons (ps_for PassesOwn.never rfl (pi_list (pv 0)) (pg_tup rfl (pgs_cons (pg_name (i := 2) sc_law_row.nd rfl (.inr rfl)) (pgs_cons (pg_name (i := 3) sc_law_row.nd rfl (.inl rfl)) pgs_nil)))
      (pss_one (ps_if (pt_cmpR op_ne (pv 3) pe_str (nomark _))
      (pss_cons (ps_set (i := 4) sc_law_row.nd rfl (.inl rfl) (pe_callB call_len_seq (by rfl) T.m_len (by decide +kernel) (pa_cons (pe_lc (own := [("_law_one", 5), ("_law_other", 6)]) (g := gTup K 2 (gCons (gName 5) (gCons (gName 6) gNil))) (by rfl) sc_law_row.nd (pi_list (pv 1)) (blkOk_by (own := [("_law_one", 5), ("_law_other", 6)]) (N := ["_law_pairs", "_law_found", "_law_name_here", "_law_worth_here", "_law_at", "_law_one", "_law_other"]) (sc := defScope s_law_row) (by decide +kernel)) (fun _ _ _ _ _ => (pg_tup rfl (pgs_cons (pg_name (i := 5) sc_law_row.nd rfl (Or.inl rfl)) (pgs_cons (pg_name (i := 6) sc_law_row.nd rfl (Or.inl rfl)) pgs_nil)))) (fun _ _ _ _ _ => (pts_one (pt_cmpR op_lt_str (pv 5) (pv 2) (nomark _)))) (fun _ _ _ _ _ => (pv 5))) pa_nil)))
      (pss_one (ps_expr (pe_bm PySem.F.plainAttrs_list PySem.F.slot_list_insert PySem.F.type_list_insert mt_insert (pv 1) (pa_cons (pv 4) (pa_cons (pe_tup (pa_cons (pv 2) (pa_cons (pv 3) pa_nil))) pa_nil))))))
      pss_nil)))
      (pss_one (ps_ret (pe_callTy call_tuple_of (by rfl) T.m_tuple (by decide +kernel) (pa_cons (pv 1) pa_nil)))))), ?_⟩
    refine ⟨Nat.zero_le _, fun L hL => ?_⟩
    refine ⟨.ref a, rfl, a, rfl, ⟨_, SqL.of ((same_upd hL) _ _ ha)⟩, for_list (K := K) (a := a) (xs := xs) (fun i σ H' => Same H H' ∧ ∃ ys, H' L = some (.lst ys) ∧ Paired (Pr H') ys (insAll ((kws.take i).filter nz)) ∧ ys.length ≤ i ∧ ∃ y2 y3 y4, σ = [some (.ref a), some (.ref L), y2, y3, y4, none, none])
      ⟨same_upd hL, [], upd_same, .nil, Nat.le_refl _, none, none, none, rfl⟩ (fun i σ H' _ pv => SqL.of (pv.1 _ _ ha)) ?_ ?_⟩
    · rintro i x σ H1 hi ⟨sm, ys, eL, hy, yl, y2, y3, y4, rfl⟩
      obtain ⟨r, hr, t, rfl, ht0⟩ := paired_at hx hi
      have ht := sm _ _ ht0
      have hf : (kws.take (i + 1)).filter nz = (kws.take i).filter nz ++ (if nz r = true then [r] else []) := by
        have := filter_take nz id hr
        simpa using this
      have hl1000 : i < 1000 := by
        have := (List.getElem?_eq_some_iff.mp hr).1
        omega
      refine ⟨t, _, rfl, SqT.of ht, rfl, _, _, rfl, _, _, rfl, rfl, ?_⟩
      refine ⟨_, rfl, rfl, _, rfl, ?_⟩
      show if nz r = true then _ else _
      refine ite2 (fun e => ?_) (fun e => ?_)
      · rw [if_pos e] at hf
        refine ⟨.ref L, rfl, L, rfl, ⟨_, SqL.of eL⟩, fun D hD => ?_⟩
        have lR : ys.length = (insAll ((kws.take i).filter nz)).length := Paired.length hy
        refine lc_list (K := K) (a := L) (xs := ys) (fun j H' => Same H1 H' ∧ H' D = some (.lst ((((insAll ((kws.take i).filter nz)).take j).filter fun y => decide (ltS y.1 r.1)).map fun y => V.str y.1))) ⟨same_upd hD, upd_same⟩ (fun j H' _ pv => SqL.of (pv.1 _ _ eL)) ?_ ?_
        · rintro j v H2 hj ⟨s2, eD⟩
          obtain ⟨r2, hr2, t2, rfl, ht2⟩ := paired_at hy hj
          have hf2 := filter_take (fun y : Str × Str => decide (ltS y.1 r.1)) (fun y => V.str y.1) hr2
          refine ⟨t2, _, rfl, SqT.of (s2 _ _ ht2), rfl, _, _, rfl, _, _, rfl, rfl, rfl, _, rfl, _, rfl, _, _, rfl, rfl, _, rfl, ?_⟩
          show if decide (ltS r2.1 r.1) = true then _ else _
          refine ite2 (fun e4 => ?_) (fun e4 => ?_)
          · rw [if_pos e4] at hf2
            refine ⟨_, rfl, _, eD, ?_, same_mut s2 hD, ?_⟩
            · rw [List.length_map]
              have h1 := List.length_filter_le (fun y : Str × Str => decide (ltS y.1 r.1)) ((insAll ((kws.take i).filter nz)).take j)
              rw [List.length_take] at h1
              exact szlt (by omega)
            · rw [upd_same, hf2]
          · rw [if_neg e4, List.append_nil] at hf2
            exact ⟨s2, by rw [hf2]; exact eD⟩
        · rintro H2 ⟨s2, eD⟩
          rw [lR, List.take_length] at eD
          have eL2 := s2 _ _ eL
          refine ⟨D, _, rfl, .inl (SqL.of eD), ?_⟩
          have hk : ((((insAll ((kws.take i).filter nz)).filter fun y => decide (ltS y.1 r.1)).map fun y => V.str y.1).length : Int) = (((insAll ((kws.take i).filter nz)).filter fun y => decide (ltS y.1 r.1)).length : Nat) := by rw [List.length_map]
          have hkl : ((insAll ((kws.take i).filter nz)).filter fun y => decide (ltS y.1 r.1)).length ≤ 1000 := by
            have := List.length_filter_le (fun y : Str × Str => decide (ltS y.1 r.1)) (insAll ((kws.take i).filter nz))
            omega
          refine ⟨.ref L, rfl, .inl ⟨rfl, _, SqL.of eL2⟩, _, rfl, _, rfl, _, rfl, (by show 2 ≤ sizeLine; decide), fun p hp => ?_⟩
          have sp := same_upd (o := .tup [.str r.1, .str r.2]) hp
          refine ⟨L, ys, _, _, rfl, rfl, sp _ _ eL2, szlt (by omega), by rw [hk]; omega, by rw [hk]; omega, same_mut ((sm.trans s2).trans sp) hL, _, upd_same, ?_, ?_, _, _, _, rfl⟩
          · rw [hk, Int.toNat_natCast, hf, insAll_snoc]
            refine prs_upd (sp _ _ eL2) (fun _ z => by cases z) (paired_insert (prs_mono (s2.trans sp) hy) ⟨p, rfl, upd_same⟩ _)
          · rw [List.length_append, List.length_append, List.length_take, List.length_drop]
            show _ + 1 + _ ≤ _
            omega
      · rw [if_neg e, List.append_nil] at hf
        exact ⟨sm, ys, eL, by rw [hf]; exact hy, by omega, _, _, _, rfl⟩
    · rintro σ H1 ⟨sm, ys, eL, hy, yl, y2, y3, y4, rfl⟩
      have hl : xs.length = kws.length := Paired.length hx
      rw [hl, List.take_length] at hy
      refine ⟨.ref L, rfl, L, _, rfl, .inl ⟨SqL.of eL, fun l hl => ?_⟩⟩
      have s2 := same_upd (o := .tup ys) hl
      exact q l ys _ (sm.trans s2) upd_same (prs_mono s2 hy)
def spRight : Sp := fun vs H Q _ => ∃ (p p2 : Addr) (xs ys : List V) (rs : List (Str × Str)), vs = [.ref p, .ref p2] ∧ H p = some (.tup xs) ∧ H p2 = some (.tup ys) ∧ Paired (Pr H) xs rs ∧ Paired (Pr H) ys rs ∧ (∀ r ∈ rs, Asc r.1 ∧ Asc r.2) ∧ ∀ H', Same H H' → Q (.bl true) H'
theorem ok_law_right (T : Txt K mg) : FnOk P w K mg base CX0 1 T.f_law_right T.fd_law_right ["_law_found", "_law_due"] spRight := by
  refine T.d_law_right.F.ok sc_law_right (fun vs H Q E h => ?_) (fun cdv A outer s H vs Q E hr h => ?_)
  · obtain ⟨p, p2, xs, ys, rs, rfl, _⟩ := h
    rfl
  · obtain ⟨p, p2, xs, ys, rs, rfl, hp, hp2, hx, hy, ha, q⟩ := h
    refine ⟨_, (pss_cons (ps_if (PW.pt (pw_or (pt_not (pt_val (pe_callB call_isi (by rfl) T.m_isinstance (by decide +kernel) (pa_cons (pv 0) (pa_cons (pe_bltn (v := .ty "tuple") (by rfl) T.m_tuple (by decide +kernel) rfl) pa_nil))))) (pw_or1 (pt_cmpR (op_neD hr.units) (pe_lc (own := [("_law_one", 2)]) (g := gName 2) (tt := tNot (tB (tCB (rIsi K) (tCons (tVar 2) (tCons (tC (.ty "tuple")) tNil))))) (by rfl) sc_law_right.nd (pi_tup (pv 0)) (blkOk_by (own := [("_law_one", 2)]) (N := ["_law_found", "_law_due", "_law_one"]) (sc := defScope s_law_right) (by decide +kernel)) (fun _ _ _ _ _ => (pg_name (i := 2) sc_law_right.nd rfl (Or.inl rfl))) (fun _ _ _ _ _ => (pts_one (pt_not (pt_val (pe_callB call_isi (by rfl) T.m_isinstance (by decide +kernel) (pa_cons (pv 2) (pa_cons (pe_bltn (v := .ty "tuple") (by rfl) T.m_tuple (by decide +kernel) rfl) pa_nil))))))) (fun _ _ _ _ _ => (pv 2))) (pe_lst pa_nil) (nomark _)))))
      (pss_one (ps_ret pe_bl))
      pss_nil)
      (pss_one (ps_ret (pe_cmpR (op_eqD hr.units) (pv 0) (pv 1) (nomark _))))), ?_⟩
    refine ⟨.ref p, rfl, .ref p, .ty "tuple", _, _, true, rfl, .ty "tuple", .base (.tup hp), kit_tup, true, rfl, ?_⟩
    refine ⟨.ref p, rfl, p, rfl, ⟨_, SqT.of hp⟩, fun D hD => ?_⟩
    refine lc_tup (K := K) (a := p) (xs := xs) (fun j H' => Same H H' ∧ H' D = some (.lst [])) ⟨same_upd hD, upd_same⟩ (fun j H' _ pv => SqT.of (pv.1 _ _ hp)) ?_ ?_
    · rintro j v H2 hj ⟨s2, eD⟩
      obtain ⟨r2, hr2, t2, rfl, ht2⟩ := paired_at hx hj
      refine ⟨rfl, .ref t2, rfl, .ref t2, .ty "tuple", _, _, true, rfl, .ty "tuple", .base (.tup (s2 _ _ ht2)), kit_tup, true, rfl, s2, eD⟩
    · rintro H2 ⟨s2, eD⟩
      refine ⟨Nat.zero_le _, fun p9 h9 => ?_⟩
      have s9 := same_upd (o := .lst []) h9
      refine ⟨.list [], .list [], .lst (SqL.of (s9 _ _ eD)) .nil, .lst (SqL.of upd_same) .nil, by decide, by decide, false, by decide, ?_⟩
      have s29 := s2.trans s9
      refine ⟨.ref p, rfl, .ref p2, rfl, .tuple (rs.map pd), .tuple (rs.map pd), .tup (SqT.of (s29 _ _ hp)) (dp_prs (prs_mono s29 hx)), .tup (SqT.of (s29 _ _ hp2)) (dp_prs (prs_mono s29 hy)), shaped_row ha, shaped_row ha, ?_⟩
      rw [eqv_row ha]
      exact q _ s29
end
end My
namespace My
open PySem PySem.Spec PyProof.Rows L2 TL
/-! ### what the row tells -/
theorem row_names {F : List (Str × Str)} {r : Str × Str} (h : r ∈ insAll F) : r ∈ F := (insAll_perm F).mem_iff.mp h
theorem look_in {ws : List (Str × Str)} (hn : (ws.map (·.1)).Nodup) {r : Str × Str} (hr : r ∈ ws) : look (insAll (ws.filter nz)) r.1 = r.2 := by
  have uniq : ∀ a ∈ ws, ∀ b ∈ ws, a.1 = b.1 → a = b := by
    intro a ha b hb e
    obtain ⟨i, hi, rfl⟩ := List.getElem_of_mem ha
    obtain ⟨j, hj, rfl⟩ := List.getElem_of_mem hb
    have hij : i = j := nd_ix hn (i := i) (j := j) (x := ws[i].1) (by rw [List.getElem?_map, List.getElem?_eq_getElem hi]; rfl) (by rw [List.getElem?_map, List.getElem?_eq_getElem hj, e]; rfl)
    subst hij
    rfl
  by_cases hz : nz r = true
  · have hm : r ∈ insAll (ws.filter nz) := (insAll_perm _).mem_iff.mpr (List.mem_filter.mpr ⟨hr, hz⟩)
    unfold look
    cases e : (insAll (ws.filter nz)).find? fun x => decide (x.1 = r.1) with
    | none => exact absurd (List.find?_eq_none.mp e r hm) (by simp)
    | some y =>
      have h1 : y.1 = r.1 := by simpa using List.find?_some e
      have h2 := (List.mem_filter.mp (row_names (List.mem_of_find?_eq_some e))).1
      show y.2 = r.2
      rw [uniq y h2 r hr h1]
  · have e2 : r.2 = "" := by
      unfold nz at hz
      by_cases h : V.str r.2 = V.str ""
      · exact V.str.inj h
      · exact absurd (by rw [decide_eq_false h]; rfl) hz
    rw [e2]
    refine look_none fun x hx e => ?_
    have h1 := List.mem_filter.mp (row_names hx)
    have := uniq x h1.1 r hr e
    rw [this] at h1
    exact hz h1.2
theorem look_out {ws : List (Str × Str)} {n : Str} (h : n ∉ ws.map (·.1)) : look (insAll (ws.filter nz)) n = "" :=
  look_none fun x hx e => h (e ▸ List.mem_map.mpr ⟨x, (List.mem_filter.mp (row_names hx)).1, rfl⟩)
/-! ### dict(pairs) -/
theorem putK_new {kvs : List (Key × V)} {k : Key} {v : V} (h : ∀ kv ∈ kvs, kv.1 ≠ k) : putK kvs k v = kvs ++ [(k, v)] := by
  unfold putK
  rw [if_neg]
  intro e
  obtain ⟨kv, h1, h2⟩ := List.any_eq_true.mp e
  exact h kv h1 (of_decide_eq_true h2)
theorem merge_new : ∀ (ws : List (Str × Str)) (acc : List (Str × Str)), ((acc ++ ws).map (·.1)).Nodup → mergeK (acc.map kvOf) (ws.map kvOf) = (acc ++ ws).map kvOf
  | [], acc, _ => by
    rw [List.append_nil]
    rfl
  | r :: ws, acc, h => by
    show mergeK (putK (acc.map kvOf) (Sum.inr r.1) (.str r.2)) (ws.map kvOf) = _
    have h2 : ((acc ++ [r]) ++ ws).map (·.1) = (acc ++ r :: ws).map (·.1) := by rw [List.append_assoc]; rfl
    rw [putK_new, show acc.map kvOf ++ [(Sum.inr r.1, V.str r.2)] = (acc ++ [r]).map kvOf by rw [List.map_append]; rfl, merge_new ws (acc ++ [r]) (by rw [h2]; exact h), List.append_assoc]
    · rfl
    · intro kv hkv e
      obtain ⟨a, ha, rfl⟩ := List.mem_map.mp hkv
      have e' : a.1 = r.1 := Sum.inr.inj e
      rw [List.map_append, List.nodup_append] at h
      exact h.2.2 a.1 (List.mem_map.mpr ⟨a, ha, rfl⟩) r.1 (List.mem_map.mpr ⟨r, List.mem_cons_self .., rfl⟩) e'
theorem prs_refs {K : PySem.W.Frag} {H : Hp} : ∀ {xs : List V} {ws : List (Str × Str)}, Paired (Pr H) xs ws → ∃ ps : List Addr, xs = ps.map V.ref ∧ Paired (fun p kv => SqT K H p [kV kv.1, kv.2]) ps (ws.map kvOf)
  | _, _, .nil => ⟨[], rfl, .nil⟩
  | _, _, .cons h t => by
    obtain ⟨a, rfl, h⟩ := h
    obtain ⟨ps, rfl, hp⟩ := prs_refs t
    exact ⟨a :: ps, rfl, .cons (SqT.of h) hp⟩
theorem items_prs {H : Hp} : ∀ {ts : List Addr} {ws : List (Str × Str)}, Paired (fun (t : Addr) (q : Key × V) => H t = some (.tup [kV q.1, q.2])) ts (ws.map kvOf) → Paired (Pr H) (ts.map V.ref) ws
  | [], [], _ => .nil
  | t :: ts, [], h => by cases h
  | [], r :: ws, h => by cases h
  | t :: ts, r :: ws, h => by
    cases h with
    | cons h1 h2 => exact .cons ⟨t, rfl, h1⟩ (items_prs h2)
section
variable {P : Program} {w : World} {K : PySem.W.Frag} {mg : Str → Option Value} {base : Heap}
theorem ok_law (T : Txt K mg) : FnOk P w K mg base CX0 4 T.f_law T.fd_law ["_law_script"] (spLaw K) := by
  refine T.d_law.F.ok sc_law (fun vs H Q E h => ?_) (fun cdv A outer s H vs Q E hr h => ?_)
  · obtain ⟨a, ns, rfl, _⟩ := h
    rfl
  · obtain ⟨a, ns, rfl, hS, hlen, q⟩ := h
    refine ⟨_, (pss_cons (ps_for PassesOwn.never rfl (pi_list (pe_op op_cat (pe_slice sl_list (pv 0) po_none (po_some pe_int)) (pe_lst (pa_cons pe_int (pa_cons pe_int (pa_cons pe_int pa_nil)))))) (pg_name (i := 1) sc_law.nd rfl (.inl rfl))
      (pss_cons (ps_set (i := 2) sc_law.nd rfl (.inr rfl) (pe_call (ok_law_well T) (hr.mono (by decide)) (by rfl) T.d_law_well.g T.d_law_well.F.kp T.d_law_well.b .nil pass0 (pa_cons (pv 1) pa_nil)))
      (pss_cons (ps_set (i := 3) sc_law.nd rfl (.inl rfl) (pe_call (ok_law_draw T) (hr.mono (by decide)) (by rfl) T.d_law_draw.g T.d_law_draw.F.kp T.d_law_draw.b .nil pass0 (pa_cons (pv 2) (pa_cons pe_int pa_nil))))
      (pss_cons (ps_set (i := 4) sc_law.nd rfl (.inr rfl) (pe_call (ok_law_names T) (hr.mono (by decide)) (by rfl) T.d_law_names.g T.d_law_names.F.kp T.d_law_names.b .nil pass0 (pa_cons (pv 2) (pa_cons (pv 3) pa_nil))))
      (pss_cons (ps_setLc (i := 5) (own := [("_law_name_here", 9)]) (g := gName 9) (tt := tYes) (by rfl) sc_law.nd rfl rfl (sw_true rfl rfl rfl (by decide +kernel)) (pi_list (pv 4)) (blkOk_by (own := [("_law_name_here", 9)]) (N := ["_law_script", "_law_cell", "_law_well_here", "_law_many", "_law_names_here", "_law_pairs", "_law_heads", "_law_row_here", "_law_asked", "_law_name_here", "_law_worth_here", "_law_found"]) (sc := defScope s_law) (by decide +kernel)) (fun _ _ _ _ _ => (pg_name (i := 9) sc_law.nd rfl (Or.inl rfl))) (fun _ _ _ _ _ => pts_nil) (fun _ _ _ _ _ => (pe_tup (pa_cons (pv 9) (pa_cons (pe_call (ok_law_worth T) (hr.mono (by decide)) (by rfl) T.d_law_worth.g T.d_law_worth.F.kp T.d_law_worth.b .nil pass0 (pa_cons (pv 2) pa_nil)) pa_nil)))))
      (pss_cons (ps_set (i := 6) sc_law.nd rfl (.inl rfl) (pe_callTy (call_dictP rfl) (by rfl) T.m_dict (by decide +kernel) (pa_cons (pv 5) pa_nil)))
      (pss_cons (ps_set (i := 7) sc_law.nd rfl (.inl rfl) (pe_call (ok_heads_row T) (hr.mono (by decide)) (by rfl) T.d_heads_row.g T.d_heads_row.F.kp T.d_heads_row.b .nil pass0 (pa_cons (pv 6) pa_nil)))
      (pss_cons (ps_if (PW.pt (pw_or (pt_not (pt_val (pe_call (ok_law_right T) (hr.mono (by decide)) (by rfl) T.d_law_right.g T.d_law_right.F.kp T.d_law_right.b .nil pass0 (pa_cons (pv 7) (pa_cons (pe_call (ok_law_row T) (hr.mono (by decide)) (by rfl) T.d_law_row.g T.d_law_row.F.kp T.d_law_row.b .nil pass0 (pa_cons (pv 5) pa_nil)) pa_nil))))) (pw_or1 (pt_cmpR (op_neD hr.units) (LiI.pe_listItems rfl (pv 6) (by rfl) T.m_list (by decide +kernel)) (pv 5) (nomark _)))))
      (pss_one (ps_ret pe_bl))
      pss_nil)
      (pss_cons (ps_dput (hu_of hr) (pv 6) pe_str pe_str rfl)
      (pss_cons (ps_set (i := 8) sc_law.nd rfl (.inl rfl) (pe_op op_cat (pv 5) (pe_lc (own := [("_law_name_here", 9)]) (g := gName 9) (tt := tAnd (tTest (tOp rNe (tSl rSlS (tVar 9) tNoPart (tPart (tUn (rU fun i => .int (-i)) (tC (.int 1))))) (tC (.str "")))) (tTest (tOp (rIn K true) (tSl rSlS (tVar 9) tNoPart (tPart (tUn (rU fun i => .int (-i)) (tC (.int 1))))) (tVar 4)))) (by rfl) sc_law.nd (pi_list (pv 4)) (blkOk_by (own := [("_law_name_here", 9)]) (N := ["_law_script", "_law_cell", "_law_well_here", "_law_many", "_law_names_here", "_law_pairs", "_law_heads", "_law_row_here", "_law_asked", "_law_name_here", "_law_worth_here", "_law_found"]) (sc := defScope s_law) (by decide +kernel)) (fun _ _ _ _ _ => (pg_name (i := 9) sc_law.nd rfl (Or.inl rfl))) (fun _ _ _ _ _ => (pts_one (PW.pt (pw_and (pt_cmpR op_ne (pe_slice sl_str (pv 9) po_none (po_some (pe_un un_neg pe_int))) pe_str (nomark _)) (pw_and1 (pt_cmpR op_notIn_seq (pe_slice sl_str (pv 9) po_none (po_some (pe_un un_neg pe_int))) (pv 4) rfl)))))) (fun _ _ _ _ _ => (pe_tup (pa_cons (pe_slice sl_str (pv 9) po_none (po_some (pe_un un_neg pe_int))) (pa_cons pe_str pa_nil)))))))
      (pss_cons (ps_for PassesOwn.never rfl (pi_list (pe_op op_cat (pe_lc (own := [("_law_name_here", 9)]) (g := gName 9) (by rfl) sc_law.nd (pi_list (pv 4)) (blkOk_by (own := [("_law_name_here", 9)]) (N := ["_law_script", "_law_cell", "_law_well_here", "_law_many", "_law_names_here", "_law_pairs", "_law_heads", "_law_row_here", "_law_asked", "_law_name_here", "_law_worth_here", "_law_found"]) (sc := defScope s_law) (by decide +kernel)) (fun _ _ _ _ _ => (pg_name (i := 9) sc_law.nd rfl (Or.inl rfl))) (fun _ _ _ _ _ => (pts_one (pt_cmpR op_lt (pe_callB call_len_str (by rfl) T.m_len (by decide +kernel) (pa_cons (pv 9) pa_nil)) pe_int (nomark _)))) (fun _ _ _ _ _ => (pe_op op_add_str (pv 9) pe_str))) (pe_lst (pa_cons pe_str pa_nil)))) (pg_name (i := 9) sc_law.nd rfl (.inl rfl))
      (pss_one (ps_if (pt_cmpR op_notIn_seq (pv 9) (pv 4) rfl)
      (pss_one (ps_expr (pe_bm PySem.F.plainAttrs_list PySem.F.slot_list_append PySem.F.type_list_append mt_append (pv 8) (pa_cons (pe_tup (pa_cons (pv 9) (pa_cons pe_str pa_nil))) pa_nil))))
      pss_nil)))
      (pss_cons (ps_for PassesOwn.never rfl (pi_list (pv 8)) (pg_tup rfl (pgs_cons (pg_name (i := 9) sc_law.nd rfl (.inl rfl)) (pgs_cons (pg_name (i := 10) sc_law.nd rfl (.inl rfl)) pgs_nil)))
      (pss_cons (ps_set (i := 11) sc_law.nd rfl (.inl rfl) (pe_call (ok_worth_of T) (hr.mono (by decide)) (by rfl) T.d_worth_of.g T.d_worth_of.F.kp T.d_worth_of.b .nil pass0 (pa_cons (pv 7) (pa_cons (pv 9) pa_nil))))
      (pss_one (ps_if (PW.pt (pw_or (pt_not (pt_val (pe_callB call_isi (by rfl) T.m_isinstance (by decide +kernel) (pa_cons (pv 11) (pa_cons (pe_bltn (v := .ty "str") (by rfl) T.m_str (by decide +kernel) rfl) pa_nil))))) (pw_or1 (pt_cmpR op_ne (pv 11) (pv 10) (nomark _)))))
      (pss_one (ps_ret pe_bl))
      pss_nil))))
      (pss_one (ps_if (pt_not (pt_val (pe_call (ok_law_right T) (hr.mono (by decide)) (by rfl) T.d_law_right.g T.d_law_right.F.kp T.d_law_right.b .nil pass0 (pa_cons (pv 7) (pa_cons (pe_call (ok_law_row T) (hr.mono (by decide)) (by rfl) T.d_law_row.g T.d_law_row.F.kp T.d_law_row.b .nil pass0 (pa_cons (pv 5) pa_nil)) pa_nil)))))
      (pss_one (ps_ret pe_bl))
      pss_nil))))))))))))))
      (pss_one (ps_ret pe_bl))), ?_⟩
    obtain ⟨ms, em, lm⟩ := cutV_map V.int ns none (some 24)
    refine ⟨.ref a, rfl, 24, rfl, a, _, rfl, hS, fun p1 h1 => ⟨(by show 3 ≤ sizeLine; decide), fun p2 h2 => ?_⟩⟩
    refine ⟨p1, p2, _, _, rfl, rfl, (same_upd h2) _ _ upd_same, upd_same, by rw [em, List.length_map]; exact szl (by show ms.length + 3 ≤ _; omega), fun p3 h3 => ?_⟩
    have ec : cutV (ns.map V.int) none (some 24) ++ [.int 0, .int 6, .int 17] = (ms ++ [0, 6, 17]).map V.int := by
      rw [em, List.map_append]
      rfl
    rw [ec]
    refine ⟨p3, rfl, ⟨_, SqL.of upd_same⟩, for_list (K := K) (a := p3) (xs := (ms ++ [0, 6, 17]).map V.int) (fun i σ H' => H' p3 = some (.lst ((ms ++ [0, 6, 17]).map V.int)) ∧ ∃ y1 y2 y3 y4 y5 y6 y7 y8 y9 y10 y11, σ = [some (.ref a), y1, y2, y3, y4, y5, y6, y7, y8, y9, y10, y11])
      ⟨upd_same, none, none, none, none, none, none, none, none, none, none, none, rfl⟩ (fun i σ H' _ pv => SqL.of pv.1) ?_ ?_⟩
    · rintro i x σ H0 hx ⟨e30, y1, y2, y3, y4, y5, y6, y7, y8, y9, y10, y11, rfl⟩
      obtain ⟨n, rfl⟩ := int_at hx
      refine ⟨.int n, rfl, n, rfl, fun W wa wb wc hW => ?_⟩
      have hI0 : IsW (upd H0 W (W3 wa wb wc)) W := ⟨wa, wb, wc, upd_same⟩
      refine ⟨.ref W, rfl, W, 9, rfl, by decide, by decide, hI0, fun m H1 m0 m1 x1 => ?_⟩
      refine ⟨.ref W, rfl, .int m, rfl, W, m, rfl, m0, by omega, x1.well, fun L F H2 fn fd fz x2 hL eL => ?_⟩
      have e32 : H2 p3 = some (.lst ((ms ++ [0, 6, 17]).map V.int)) := x2.keep _ _ (ne_of_none e30 hW) (x1.keep _ _ (ne_of_none e30 hW) ((same_upd hW) _ _ e30))
      have nWL : L ≠ W := (x1.well.ne hL).symm
      have nWp : p3 ≠ W := ne_of_none e30 hW
      -- pairs
      refine ⟨.ref L, rfl, L, rfl, ⟨_, SqL.of eL⟩, fun D hD => ?_⟩
      have nD : W ≠ D := x2.well.ne hD
      refine lc_list (K := K) (a := L) (xs := F.map V.str) (fun j H' => Wx W H2 H' ∧ ∃ xs ws, H' D = some (.lst xs) ∧ Paired (Pr H') xs ws ∧ ws.map (·.1) = F.take j ∧ ∀ r ∈ ws, Wo r.2) ⟨(Wx.refl x2.well).new hD, [], [], upd_same, .nil, rfl, fun _ h => nomatch h⟩ (fun j H' _ pv => SqL.of (pv.1.keep _ _ nWL eL)) ?_ ?_
      · rintro j v H3 hv ⟨x3, xs, ws, eD, hxs, hws, hwo⟩
        obtain ⟨y, rfl, hy, my⟩ := str_at hv
        refine ⟨rfl, .str y, rfl, .ref W, rfl, W, rfl, x3.well, fun t H5 ht x5 => ⟨(by show 2 ≤ sizeLine; decide), fun p hp => ?_⟩⟩
        have sp := same_upd (o := .tup [.str y, .str t]) hp
        have eD5 := sp _ _ (x5.keep _ _ nD.symm eD)
        have lws : ws.length = min j F.length := by
          have := congrArg List.length hws
          rw [List.length_map, List.length_take] at this
          exact this
        refine ⟨xs, eD5, ?_, ((x3.trans x5).same sp).mut hD nD, xs ++ [.ref p], ws ++ [(y, t)], upd_same, prs_upd eD5 (fun _ z => by cases z) (paired_app (prs_mono sp (prs_wx x3.well x5 hxs)) (.cons ⟨p, rfl, upd_same⟩ .nil)), ?_, ?_⟩
        · rw [Paired.length hxs]
          exact szlt (by omega)
        · rw [List.map_append, hws, List.take_add_one, hy]
          rfl
        · intro r hr
          rcases List.mem_append.mp hr with h | h
          · exact hwo r h
          · rw [List.mem_singleton.mp h]
            exact ht
      · rintro H3 ⟨x3, xs, ws, eD, hxs, hws, hwo⟩
        rw [List.take_of_length_le (by rw [List.length_map]; exact Nat.le_refl _)] at hws
        have lws : ws.length = F.length := by
          have := congrArg List.length hws
          rw [List.length_map] at this
          exact this
        have hnd : (ws.map (·.1)).Nodup := by rw [hws]; exact fd
        have hasc : ∀ r ∈ ws, Asc r.1 ∧ Asc r.2 := fun r hr => ⟨(fz r.1 (by rw [← hws]; exact List.mem_map.mpr ⟨r, hr, rfl⟩)).2.2, (hwo r hr).2⟩
        have hascR : ∀ r ∈ insAll (ws.filter nz), Asc r.1 ∧ Asc r.2 := fun r hr => hasc r (List.mem_filter.mp (row_names hr)).1
        have e33 := x3.keep _ _ nWp e32
        have eL3 := x3.keep _ _ nWL eL
        -- heads
        obtain ⟨ps, exs, hps⟩ := prs_refs (K := K) hxs
        refine ⟨.ref D, rfl, D, ps, ws.map kvOf, rfl, SqL.of (by rw [← exs]; exact eD), hps, fun dd hdd => ?_⟩
        have em2 : mergeK [] (ws.map kvOf) = ws.map kvOf := merge_new ws [] hnd
        rw [em2]
        have sdd : Same H3 (upd H3 dd (.dK (ws.map kvOf))) := same_upd hdd
        refine ⟨.ref dd, rfl, dd, ws, rfl, upd_same, by omega, fun pr xr rs H4 s4 hpr hxr hperm hsort => ?_⟩
        have ers : rs = insAll (ws.filter nz) := row_eq (nodup_filter hnd nz) hperm hsort
        subst ers
        have t4 := sdd.trans s4
        -- the first look
        refine ⟨.ref pr, rfl, .ref D, rfl, D, xs, ws, rfl, t4 _ _ eD, prs_mono t4 hxs, by omega, fun p5 ys H5 s5 hp5 hy5 => ?_⟩
        refine ⟨pr, p5, xr, ys, _, rfl, s5 _ _ hpr, hp5, prs_mono s5 hxr, hy5, hascR, fun H6 s6 => ⟨true, rfl, ?_⟩⟩
        have s56 := s5.trans s6
        have hdd6 : H6 dd = some (.dK (ws.map kvOf)) := s56 _ _ (s4 _ _ upd_same)
        have t6 := t4.trans s56
        refine ⟨.ref dd, rfl, dd, _, rfl, hdd6, fun H7 p7 ts s7 _ _ _ hp7 hts => ?_⟩
        have s7' : Same H6 H7 := s7
        have t7 := t6.trans s7'
        refine ⟨.ref D, rfl, .list (ws.map pd), .list (ws.map pd), .lst (SqL.of hp7) (dp_prs (items_prs hts)), .lst (SqL.of (t7 _ _ eD)) (dp_prs (prs_mono t7 hxs)), shaped_lst hasc, shaped_lst hasc, false, by rw [eqv_lst hasc]; rfl, ?_⟩
        -- heads['other'] = 'x'
        have hdd7 := s7' _ _ hdd6
        refine ⟨.ref dd, rfl, dd, _, rfl, DPut.k (k := Sum.inr "other") hdd7 (by rw [List.length_map]; exact szlt (by omega)), ?_⟩
        have hpr7 := s7' _ _ (s56 _ _ hpr)
        have hxr7 := prs_mono (s56.trans s7') hxr
        have hxs7 := prs_mono t7 hxs
        have eD7 := t7 _ _ eD
        have eL7 := t7 _ _ eL3
        have e37 := t7 _ _ e33
        have ndd : ∀ {b : Addr} {o : HO}, H7 b = some o → (∀ k, o ≠ .dK k) → (upd H7 dd (.dK (putK (ws.map kvOf) (Sum.inr "other") (.str "x")))) b = some o := fun {b o} hb ho => by
          rw [upd_ne]
          · exact hb
          · intro z
            rw [z, hdd7] at hb
            exact ho _ (Option.some.inj hb).symm
        generalize hH8 : upd H7 dd (.dK (putK (ws.map kvOf) (Sum.inr "other") (.str "x"))) = H8
        rw [hH8] at ndd
        have hpr8 := ndd hpr7 (fun _ z => by cases z)
        have eD8 := ndd eD7 (fun _ z => by cases z)
        have eL8 := ndd eL7 (fun _ z => by cases z)
        have e38 := ndd e37 (fun _ z => by cases z)
        have hxr8 : Paired (Pr H8) xr (insAll (ws.filter nz)) := by rw [← hH8]; exact prs_upd hdd7 (fun _ z => by cases z) hxr7
        have hxs8 : Paired (Pr H8) xs ws := by rw [← hH8]; exact prs_upd hdd7 (fun _ z => by cases z) hxs7
        -- asked
        refine ⟨.ref D, rfl, .ref L, rfl, L, rfl, ⟨_, SqL.of eL8⟩, fun D3 hD3 => ?_⟩
        refine lc_list (K := K) (a := L) (xs := F.map V.str) (fun j H' => Same H8 H' ∧ ∃ xs3 ws3, H' D3 = some (.lst xs3) ∧ Paired (Pr H') xs3 ws3 ∧ xs3.length ≤ j ∧ ∀ r ∈ ws3, r.2 = "" ∧ r.1 ∉ F) ⟨same_upd hD3, [], [], upd_same, .nil, Nat.le_refl _, fun _ h => nomatch h⟩ (fun j H' _ pv => SqL.of (pv.1 _ _ eL8)) ?_ ?_
        · rintro j v H9 hv ⟨s9, xs3, ws3, eD3, hxs3, l3, g3⟩
          obtain ⟨y, rfl, hy, my⟩ := str_at hv
          have jl : j < F.length := (List.getElem?_eq_some_iff.mp hy).1
          have ly := (fz y my).2.1
          refine ⟨rfl, .str y, rfl, 1, rfl, _, rfl, y, rfl, szl (by omega), rfl, _, rfl, ite2 (fun e1 => ?_) (fun e1 => ?_)⟩
          · refine ⟨.str y, rfl, 1, rfl, _, rfl, y, rfl, szl (by omega), .ref L, rfl, L, _, rfl, .inl (SqL.of (s9 _ _ eL8)), rfl, flat_strs F, _, rfl, ?_⟩
            show if (!inV (.str (cutS y none (some (-1)))) (F.map V.str)) = true then _ else _
            rw [inV_strs]
            refine ite2 (fun e2 => ?_) (fun e2 => ?_)
            · refine ⟨.str y, rfl, 1, rfl, _, rfl, y, rfl, szl (by omega), (by show 2 ≤ sizeLine; decide), fun p hp => ?_⟩
              have sp := same_upd (o := .tup [.str (cutS y none (some (-1))), .str ""]) hp
              have eD3' := sp _ _ eD3
              refine ⟨xs3, eD3', szlt (by omega), same_mut (s9.trans sp) hD3, xs3 ++ [.ref p], ws3 ++ [(cutS y none (some (-1)), ("" : Str))], upd_same, prs_upd eD3' (fun _ z => by cases z) (paired_app (prs_mono sp hxs3) (.cons ⟨p, rfl, upd_same⟩ .nil)), by rw [List.length_append]; show _ + 1 ≤ _; omega, ?_⟩
              intro r hr
              rcases List.mem_append.mp hr with h | h
              · exact g3 r h
              · rw [List.mem_singleton.mp h]
                exact ⟨rfl, by simpa using e2⟩
            · exact ⟨s9, xs3, ws3, eD3, hxs3, by omega, g3⟩
          · exact ⟨s9, xs3, ws3, eD3, hxs3, by omega, g3⟩
        · rintro H9 ⟨s9, xs3, ws3, eD3, hxs3, l3, g3⟩
          rw [List.length_map] at l3
          have lxs : xs.length = ws.length := Paired.length hxs
          refine ⟨D, D3, _, _, rfl, rfl, s9 _ _ eD8, eD3, szl (by omega), fun pa hpa => ?_⟩
          have spa := same_upd (o := .lst (xs ++ xs3)) hpa
          have hall : Paired (Pr (upd H9 pa (.lst (xs ++ xs3)))) (xs ++ xs3) (ws ++ ws3) := prs_mono spa (paired_app (prs_mono s9 hxs8) hxs3)
          have hgood : ∀ r ∈ ws ++ ws3, look (insAll (ws.filter nz)) r.1 = r.2 := fun r hr => by
            rcases List.mem_append.mp hr with h | h
            · exact look_in hnd h
            · rw [(g3 r h).1]
              exact look_out (by rw [hws]; exact (g3 r h).2)
          -- the further names
          refine ⟨.ref L, rfl, L, rfl, ⟨_, SqL.of (spa _ _ (s9 _ _ eL8))⟩, fun D4 hD4 => ?_⟩
          refine lc_list (K := K) (a := L) (xs := F.map V.str) (fun j H' => Same (upd H9 pa (.lst (xs ++ xs3))) H' ∧ ∃ G : List Str, H' D4 = some (.lst (G.map V.str)) ∧ G.length ≤ j) ⟨same_upd hD4, [], upd_same, Nat.le_refl _⟩ (fun j H' _ pv => SqL.of (pv.1 _ _ (spa _ _ (s9 _ _ eL8)))) ?_ ?_
          · rintro j v H10 hv ⟨s10, G, eD4, lG⟩
            obtain ⟨y, rfl, hy, my⟩ := str_at hv
            have jl : j < F.length := (List.getElem?_eq_some_iff.mp hy).1
            have ly := (fz y my).2.1
            refine ⟨rfl, .str y, rfl, y, rfl, szl (by omega), _, 8, rfl, rfl, _, rfl, ite2 (fun e1 => ?_) (fun e1 => ?_)⟩
            · have lx : ("x" : Str).length = 1 := by decide
              refine ⟨.str y, rfl, y, _, rfl, rfl, szl (by omega), _, eD4, by rw [List.length_map]; exact szlt (by omega), same_mut s10 hD4, G ++ [y ++ "x"], by rw [upd_same, List.map_append]; rfl, by rw [List.length_append]; show _ + 1 ≤ _; omega⟩
            · exact ⟨s10, G, eD4, by omega⟩
          · rintro H10 ⟨s10, G, eD4, lG⟩
            rw [List.length_map] at lG
            refine ⟨(by show 1 ≤ sizeLine; decide), fun p6 h6 => ?_⟩
            have s11 := same_upd (o := .lst [.str "zzzzzzzz"]) h6
            refine ⟨D4, p6, _, _, rfl, rfl, s11 _ _ eD4, upd_same, by rw [List.length_map]; exact szl (by show _ + 1 ≤ _; omega), fun p7 h7 => ?_⟩
            have eG : G.map V.str ++ [.str "zzzzzzzz"] = (G ++ [("zzzzzzzz" : Str)]).map V.str := by
              rw [List.map_append]
              rfl
            rw [eG]
            have s12 := same_upd (o := .lst ((G ++ [("zzzzzzzz" : Str)]).map V.str)) h7
            have t12 := ((spa.trans s10).trans s11).trans s12
            have u12 := (s10.trans s11).trans s12
            have hpa12 := u12 pa _ upd_same
            have np7 : p7 ≠ pa := fun z => by
              have := (s10.trans s11) pa _ upd_same
              rw [← z, h7] at this
              cases this
            refine ⟨p7, rfl, ⟨_, SqL.of upd_same⟩, for_list (K := K) (a := p7) (xs := (G ++ [("zzzzzzzz" : Str)]).map V.str) (fun j σ H' => Same H9 H' ∧ H' p7 = some (.lst ((G ++ [("zzzzzzzz" : Str)]).map V.str)) ∧ (∃ xsA wsA, H' pa = some (.lst xsA) ∧ Paired (Pr H') xsA wsA ∧ xsA.length ≤ 100 + j ∧ ∀ r ∈ wsA, look (insAll (ws.filter nz)) r.1 = r.2) ∧ ∃ y9 y10 y11, σ = [some (.ref a), some (.int n), some (.ref W), some (.int m), some (.ref L), some (.ref D), some (.ref dd), some (.ref pr), some (.ref pa), y9, y10, y11])
              ⟨t12, upd_same, ⟨_, _, hpa12, prs_mono u12 hall, by rw [List.length_append]; omega, hgood⟩, _, _, _, rfl⟩ (fun j σ H' _ pv => SqL.of pv.2.1) ?_ ?_⟩
            · rintro j v σ H13 hv ⟨s13, e7, ⟨xsA, wsA, eA, hA, lA, gA⟩, z9, z10, z11, rfl⟩
              obtain ⟨y, rfl, hy, my⟩ := str_at hv
              have jl : j < G.length + 1 := by
                have := (List.getElem?_eq_some_iff.mp hy).1
                rw [List.length_append] at this
                exact this
              refine ⟨.str y, rfl, .ref L, rfl, L, _, rfl, .inl (SqL.of (s13 _ _ (s9 _ _ eL8))), rfl, flat_strs F, _, rfl, ?_⟩
              show if (!inV (.str y) (F.map V.str)) = true then _ else _
              rw [inV_strs]
              refine ite2 (fun e2 => ?_) (fun e2 => ?_)
              · refine ⟨.ref pa, rfl, .inl ⟨rfl, _, SqL.of eA⟩, .str y, rfl, (by show 2 ≤ sizeLine; decide), fun p hp => ?_⟩
                have sp := same_upd (o := .tup [.str y, .str ""]) hp
                have eA' := sp _ _ eA
                refine ⟨pa, _, _, rfl, rfl, eA', szlt (by omega), same_mut (s13.trans sp) hpa, by rw [upd_ne np7]; exact sp _ _ e7, ⟨xsA ++ [.ref p], wsA ++ [(y, ("" : Str))], upd_same, prs_upd eA' (fun _ z => by cases z) (paired_app (prs_mono sp hA) (.cons ⟨p, rfl, upd_same⟩ .nil)), by rw [List.length_append]; show _ + 1 ≤ _; omega, ?_⟩, _, _, _, rfl⟩
                intro r hr
                rcases List.mem_append.mp hr with h | h
                · exact gA r h
                · rw [List.mem_singleton.mp h]
                  exact look_out (by rw [hws]; simpa using e2)
              · exact ⟨s13, e7, ⟨xsA, wsA, eA, hA, by omega, gA⟩, _, _, _, rfl⟩
            · rintro σ H13 ⟨s13, e7, ⟨xsA, wsA, eA, hA, lA, gA⟩, z9, z10, z11, rfl⟩
              have hpr13 := s13 _ _ (s9 _ _ hpr8)
              have hxr13 := prs_mono (s9.trans s13) hxr8
              refine ⟨.ref pa, rfl, pa, rfl, ⟨_, SqL.of eA⟩, for_list (K := K) (a := pa) (xs := xsA) (fun j σ H' => H' = H13 ∧ ∃ y9 y10 y11, σ = [some (.ref a), some (.int n), some (.ref W), some (.int m), some (.ref L), some (.ref D), some (.ref dd), some (.ref pr), some (.ref pa), y9, y10, y11])
                ⟨rfl, _, _, _, rfl⟩ (fun j σ H' _ pv => by rw [pv.1]; exact SqL.of eA) ?_ ?_⟩
              · rintro j v σ H14 hv ⟨rfl, u9, u10, u11, rfl⟩
                obtain ⟨r, hr, t, rfl, ht⟩ := paired_at hA hv
                have gr := gA r (List.mem_of_getElem? hr)
                refine ⟨t, _, rfl, SqT.of ht, rfl, _, _, rfl, _, _, rfl, rfl, ?_⟩
                refine ⟨.ref pr, rfl, _, rfl, pr, xr, _, _, rfl, hpr13, hxr13, ?_⟩
                refine ⟨_, rfl, _, .ty "str", _, _, true, rfl, .ty "str", .base (.str _), kit_str, true, rfl, ?_⟩
                refine ⟨_, rfl, _, rfl, rfl, false, ?_, rfl, _, _, _, rfl⟩
                rw [gr, decide_eq_true rfl]
                rfl
              · rintro σ H14 ⟨rfl, u9, u10, u11, rfl⟩
                have eD13 := s13 _ _ (s9 _ _ eD8)
                have hxs13 := prs_mono (s9.trans s13) hxs8
                refine ⟨.ref pr, rfl, .ref D, rfl, D, xs, ws, rfl, eD13, hxs13, by omega, fun p15 ys15 H15 s15 hp15 hy15 => ?_⟩
                refine ⟨pr, p15, xr, ys15, _, rfl, s15 _ _ hpr13, hp15, prs_mono s15 hxr13, hy15, hascR, fun H16 s16 => ⟨true, rfl, ?_⟩⟩
                exact ⟨s16 _ _ (s15 _ _ (s13 _ _ (s9 _ _ e38))), _, _, _, _, _, _, _, _, _, _, _, rfl⟩
    · rintro σ H1 ⟨e3, y1, y2, y3, y4, y5, y6, y7, y8, y9, y10, y11, rfl⟩
      exact q _
end
theorem all_mk {l : PySem.W.OpenLaw} {w : World} {K : PySem.W.Frag} {h : Heap} {mg : Str → Option Value} {fa : Addr} (X : K.In h) (G : h.Ns mainGlobals mg) (hfa : mg "law" = some (.ref fa))
    {f0 : Addr} {od0 an0 : Option Addr} {sl0 : Array (Option Value)} {oc0 kV0 dc0 pm0 cd0 ct0 : Value}
    (a0 : PySem.W.nsIn K mainGlobals "heads_row" = some (some (.ref f0))) (l0 : K.lookup f0 = some ⟨oc0, od0, .func (PySem.W.fnOf "heads_row" "heads_row" (defArgs s_heads_row) (defBody s_heads_row) (defScope s_heads_row) .none kV0 dc0 pm0 an0 cd0 ct0), sl0⟩) (c0 : PySem.W.codeIn K cd0 "heads_row" = true) (k0 : PySem.W.keepIn K (.ref f0) = true)
    {f1 : Addr} {od1 an1 : Option Addr} {sl1 : Array (Option Value)} {oc1 kV1 dc1 pm1 cd1 ct1 : Value}
    (a1 : PySem.W.nsIn K mainGlobals "worth_of" = some (some (.ref f1))) (l1 : K.lookup f1 = some ⟨oc1, od1, .func (PySem.W.fnOf "worth_of" "worth_of" (defArgs s_worth_of) (defBody s_worth_of) (defScope s_worth_of) .none kV1 dc1 pm1 an1 cd1 ct1), sl1⟩) (c1 : PySem.W.codeIn K cd1 "worth_of" = true) (k1 : PySem.W.keepIn K (.ref f1) = true)
    {f2 : Addr} {od2 an2 : Option Addr} {sl2 : Array (Option Value)} {oc2 kV2 dc2 pm2 cd2 ct2 : Value}
    (a2 : PySem.W.nsIn K mainGlobals "_law_well" = some (some (.ref f2))) (l2 : K.lookup f2 = some ⟨oc2, od2, .func (PySem.W.fnOf "_law_well" "_law_well" (defArgs s_law_well) (defBody s_law_well) (defScope s_law_well) .none kV2 dc2 pm2 an2 cd2 ct2), sl2⟩) (c2 : PySem.W.codeIn K cd2 "_law_well" = true) (k2 : PySem.W.keepIn K (.ref f2) = true)
    {f3 : Addr} {od3 an3 : Option Addr} {sl3 : Array (Option Value)} {oc3 kV3 dc3 pm3 cd3 ct3 : Value}
    (a3 : PySem.W.nsIn K mainGlobals "_law_draw" = some (some (.ref f3))) (l3 : K.lookup f3 = some ⟨oc3, od3, .func (PySem.W.fnOf "_law_draw" "_law_draw" (defArgs s_law_draw) (defBody s_law_draw) (defScope s_law_draw) .none kV3 dc3 pm3 an3 cd3 ct3), sl3⟩) (c3 : PySem.W.codeIn K cd3 "_law_draw" = true) (k3 : PySem.W.keepIn K (.ref f3) = true)
    {f4 : Addr} {od4 an4 : Option Addr} {sl4 : Array (Option Value)} {oc4 kV4 dc4 pm4 cd4 ct4 : Value}
    (a4 : PySem.W.nsIn K mainGlobals "_law_name" = some (some (.ref f4))) (l4 : K.lookup f4 = some ⟨oc4, od4, .func (PySem.W.fnOf "_law_name" "_law_name" (defArgs s_law_name) (defBody s_law_name) (defScope s_law_name) .none kV4 dc4 pm4 an4 cd4 ct4), sl4⟩) (c4 : PySem.W.codeIn K cd4 "_law_name" = true) (k4 : PySem.W.keepIn K (.ref f4) = true)
    {f5 : Addr} {od5 an5 : Option Addr} {sl5 : Array (Option Value)} {oc5 kV5 dc5 pm5 cd5 ct5 : Value}
    (a5 : PySem.W.nsIn K mainGlobals "_law_names" = some (some (.ref f5))) (l5 : K.lookup f5 = some ⟨oc5, od5, .func (PySem.W.fnOf "_law_names" "_law_names" (defArgs s_law_names) (defBody s_law_names) (defScope s_law_names) .none kV5 dc5 pm5 an5 cd5 ct5), sl5⟩) (c5 : PySem.W.codeIn K cd5 "_law_names" = true) (k5 : PySem.W.keepIn K (.ref f5) = true)
    {f6 : Addr} {od6 an6 : Option Addr} {sl6 : Array (Option Value)} {oc6 kV6 dc6 pm6 cd6 ct6 : Value}
    (a6 : PySem.W.nsIn K mainGlobals "_law_worth" = some (some (.ref f6))) (l6 : K.lookup f6 = some ⟨oc6, od6, .func (PySem.W.fnOf "_law_worth" "_law_worth" (defArgs s_law_worth) (defBody s_law_worth) (defScope s_law_worth) .none kV6 dc6 pm6 an6 cd6 ct6), sl6⟩) (c6 : PySem.W.codeIn K cd6 "_law_worth" = true) (k6 : PySem.W.keepIn K (.ref f6) = true)
    {f7 : Addr} {od7 an7 : Option Addr} {sl7 : Array (Option Value)} {oc7 kV7 dc7 pm7 cd7 ct7 : Value}
    (a7 : PySem.W.nsIn K mainGlobals "_law_row" = some (some (.ref f7))) (l7 : K.lookup f7 = some ⟨oc7, od7, .func (PySem.W.fnOf "_law_row" "_law_row" (defArgs s_law_row) (defBody s_law_row) (defScope s_law_row) .none kV7 dc7 pm7 an7 cd7 ct7), sl7⟩) (c7 : PySem.W.codeIn K cd7 "_law_row" = true) (k7 : PySem.W.keepIn K (.ref f7) = true)
    {f8 : Addr} {od8 an8 : Option Addr} {sl8 : Array (Option Value)} {oc8 kV8 dc8 pm8 cd8 ct8 : Value}
    (a8 : PySem.W.nsIn K mainGlobals "_law_right" = some (some (.ref f8))) (l8 : K.lookup f8 = some ⟨oc8, od8, .func (PySem.W.fnOf "_law_right" "_law_right" (defArgs s_law_right) (defBody s_law_right) (defScope s_law_right) .none kV8 dc8 pm8 an8 cd8 ct8), sl8⟩) (c8 : PySem.W.codeIn K cd8 "_law_right" = true) (k8 : PySem.W.keepIn K (.ref f8) = true)
    {f9 : Addr} {od9 an9 : Option Addr} {sl9 : Array (Option Value)} {oc9 kV9 dc9 pm9 cd9 ct9 : Value}
    (a9 : PySem.W.nsIn K mainGlobals "law" = some (some (.ref f9))) (l9 : K.lookup f9 = some ⟨oc9, od9, .func (PySem.W.fnOf "law" "law" (defArgs s_law) (defBody s_law) (defScope s_law) .none kV9 dc9 pm9 an9 cd9 ct9), sl9⟩) (c9 : PySem.W.codeIn K cd9 "law" = true) (k9 : PySem.W.keepIn K (.ref f9) = true)
    (z_dict : PySem.W.nsIn K mainGlobals "dict" = some none)
    (z_int : PySem.W.nsIn K mainGlobals "int" = some none)
    (z_isinstance : PySem.W.nsIn K mainGlobals "isinstance" = some none)
    (z_len : PySem.W.nsIn K mainGlobals "len" = some none)
    (z_list : PySem.W.nsIn K mainGlobals "list" = some none)
    (z_range : PySem.W.nsIn K mainGlobals "range" = some none)
    (z_sorted : PySem.W.nsIn K mainGlobals "sorted" = some none)
    (z_str : PySem.W.nsIn K mainGlobals "str" = some none)
    (z_tuple : PySem.W.nsIn K mainGlobals "tuple" = some none)
    : ∃ fd : FuncData, (∀ (s : Shared) (v : Value), BindsTo s fd ⟨[v], []⟩ [("_law_script", v)]) ∧ ∀ base : Heap, K.In base → base.Ns mainGlobals mg → FnOk l.prog w K mg base CX0 4 fa fd ["_law_script"] (spLaw K) := by
  have e := hfa.symm.trans (PySem.W.mg_of X G a9)
  cases e
  have F0 := fun_mk (st := s_heads_row) l0 c0 k0
  have F1 := fun_mk (st := s_worth_of) l1 c1 k1
  have F2 := fun_mk (st := s_law_well) l2 c2 k2
  have F3 := fun_mk (st := s_law_draw) l3 c3 k3
  have F4 := fun_mk (st := s_law_name) l4 c4 k4
  have F5 := fun_mk (st := s_law_names) l5 c5 k5
  have F6 := fun_mk (st := s_law_worth) l6 c6 k6
  have F7 := fun_mk (st := s_law_row) l7 c7 k7
  have F8 := fun_mk (st := s_law_right) l8 c8 k8
  have F9 := fun_mk (st := s_law) l9 c9 k9
  let T : Txt K mg := {
    f_heads_row := f0, fd_heads_row := _, d_heads_row := ⟨F0, F0.binds (ps := ["heads"]) (fun _ _ _ _ _ _ us hl => match us, hl with | [_], _ => rfl), PySem.W.mg_of X G a0⟩,
    f_worth_of := f1, fd_worth_of := _, d_worth_of := ⟨F1, F1.binds (ps := ["row", "name"]) (fun _ _ _ _ _ _ us hl => match us, hl with | [_, _], _ => rfl), PySem.W.mg_of X G a1⟩,
    f_law_well := f2, fd_law_well := _, d_law_well := ⟨F2, F2.binds (ps := ["_law_cell"]) (fun _ _ _ _ _ _ us hl => match us, hl with | [_], _ => rfl), PySem.W.mg_of X G a2⟩,
    f_law_draw := f3, fd_law_draw := _, d_law_draw := ⟨F3, F3.binds (ps := ["_law_well_here", "_law_many"]) (fun _ _ _ _ _ _ us hl => match us, hl with | [_, _], _ => rfl), PySem.W.mg_of X G a3⟩,
    f_law_name := f4, fd_law_name := _, d_law_name := ⟨F4, F4.binds (ps := ["_law_well_here"]) (fun _ _ _ _ _ _ us hl => match us, hl with | [_], _ => rfl), PySem.W.mg_of X G a4⟩,
    f_law_names := f5, fd_law_names := _, d_law_names := ⟨F5, F5.binds (ps := ["_law_well_here", "_law_many"]) (fun _ _ _ _ _ _ us hl => match us, hl with | [_, _], _ => rfl), PySem.W.mg_of X G a5⟩,
    f_law_worth := f6, fd_law_worth := _, d_law_worth := ⟨F6, F6.binds (ps := ["_law_well_here"]) (fun _ _ _ _ _ _ us hl => match us, hl with | [_], _ => rfl), PySem.W.mg_of X G a6⟩,
    f_law_row := f7, fd_law_row := _, d_law_row := ⟨F7, F7.binds (ps := ["_law_pairs"]) (fun _ _ _ _ _ _ us hl => match us, hl with | [_], _ => rfl), PySem.W.mg_of X G a7⟩,
    f_law_right := f8, fd_law_right := _, d_law_right := ⟨F8, F8.binds (ps := ["_law_found", "_law_due"]) (fun _ _ _ _ _ _ us hl => match us, hl with | [_, _], _ => rfl), PySem.W.mg_of X G a8⟩,
    f_law := fa, fd_law := _, d_law := ⟨F9, F9.binds (ps := ["_law_script"]) (fun _ _ _ _ _ _ us hl => match us, hl with | [_], _ => rfl), PySem.W.mg_of X G a9⟩,
    m_dict := PySem.W.mg_none_of X G z_dict,
    m_int := PySem.W.mg_none_of X G z_int,
    m_isinstance := PySem.W.mg_none_of X G z_isinstance,
    m_len := PySem.W.mg_none_of X G z_len,
    m_list := PySem.W.mg_none_of X G z_list,
    m_range := PySem.W.mg_none_of X G z_range,
    m_sorted := PySem.W.mg_none_of X G z_sorted,
    m_str := PySem.W.mg_none_of X G z_str,
    m_tuple := PySem.W.mg_none_of X G z_tuple
  }
  exact ⟨T.fd_law, fun s v => .of_eq rfl, fun base _ _ => ok_law T⟩
end My
open PySem PySem.W PyProof.Rows
set_option maxHeartbeats 0 in
theorem PySem.Challenge.cw_pagelodge_k02_heads_in_a_row_holds : PySem.Challenge.rw_pagelodge_k02_heads_in_a_row.Holds := by
  w_on; o_law; k_head; (case hw => w_witness2)
  k_fill
  refine L2.walk_of (l := PySem.Challenge.rw_pagelodge_k02_heads_in_a_row) (n := 63) (k := 4) (x := "_law_script") (CX := fun _ => L2.CX0) (sp := fun w => My.spLaw _) rfl (by decide) rfl ⟨rfl, by decide, by decide⟩ (fun w h Y => PySem.W.kIn_of Y) ?F (fun _ _ a ns hl _ hS => ⟨a, ns, rfl, hS, hl, fun _ => rfl⟩) (fun _ _ _ _ _ h => h)
  case F =>
    intro w mg fa h KX G hmg
    refine' My.all_mk KX G hmg ?a0 ?l0 ?c0 ?k0 ?a1 ?l1 ?c1 ?k1 ?a2 ?l2 ?c2 ?k2 ?a3 ?l3 ?c3 ?k3 ?a4 ?l4 ?c4 ?k4 ?a5 ?l5 ?c5 ?k5 ?a6 ?l6 ?c6 ?k6 ?a7 ?l7 ?c7 ?k7 ?a8 ?l8 ?c8 ?k8 ?a9 ?l9 ?c9 ?k9 ?z_dict ?z_int ?z_isinstance ?z_len ?z_list ?z_range ?z_sorted ?z_str ?z_tuple
    (case a0 => k_is)
    (case l0 => k_is)
    (case c0 => k_is)
    (case k0 => k_is)
    (case a1 => k_is)
    (case l1 => k_is)
    (case c1 => k_is)
    (case k1 => k_is)
    (case a2 => k_is)
    (case l2 => k_is)
    (case c2 => k_is)
    (case k2 => k_is)
    (case a3 => k_is)
    (case l3 => k_is)
    (case c3 => k_is)
    (case k3 => k_is)
    (case a4 => k_is)
    (case l4 => k_is)
    (case c4 => k_is)
    (case k4 => k_is)
    (case a5 => k_is)
    (case l5 => k_is)
    (case c5 => k_is)
    (case k5 => k_is)
    (case a6 => k_is)
    (case l6 => k_is)
    (case c6 => k_is)
    (case k6 => k_is)
    (case a7 => k_is)
    (case l7 => k_is)
    (case c7 => k_is)
    (case k7 => k_is)
    (case a8 => k_is)
    (case l8 => k_is)
    (case c8 => k_is)
    (case k8 => k_is)
    (case a9 => k_is)
    (case l9 => k_is)
    (case c9 => k_is)
    (case k9 => k_is)
    (case z_dict => k_is)
    (case z_int => k_is)
    (case z_isinstance => k_is)
    (case z_len => k_is)
    (case z_list => k_is)
    (case z_range => k_is)
    (case z_sorted => k_is)
    (case z_str => k_is)
    (case z_tuple => k_is)
