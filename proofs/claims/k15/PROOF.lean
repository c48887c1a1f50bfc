import PyProof.Rows.All
import Wide.All
import OpenK.AllK
import Wide.FinOn
import HandS.ForMost
import HandS.IsInst
import HandS.Walk
import HandS.Style
import HandS.Evl
import KE.SortData
import HandS.MakeKwOnly
import HandS.SortKw
import HandS.StrMore
import HandS.FStr
import KE.DataMinMax
import HandS.TryOnly
import PySem.Challenge.RW_pagelodge_k15_both_of_two
set_option Elab.async false
set_option linter.all false
set_option maxRecDepth 100000
set_option maxHeartbeats 4000000
namespace My
open PySem PySem.Spec PyProof.Rows L2 TL
/-- xs == [], xs != []: items of any kind -/
def rEqNil (K : PySem.W.Frag) : R2 := fun x y H Q => ∃ p q xs, x = .ref p ∧ y = .ref q ∧ SqL K H p xs ∧ SqL K H q [] ∧ Q (.bl xs.isEmpty) H
section
variable {X : Cx}
theorem op_eqNil (hu : X.A.units + 64 < cLine) : OpR X (compareOp .Eq) (rEqNil X.K) := by
  intro pins s σ H x y v u Q I rx ry h
  obtain ⟨p, q, xs, rfl, rfl, h1, h2, k⟩ := h
  obtain ⟨its, rv, hl, _⟩ := I.list h1
  obtain ⟨its2, rv2, hl2, _⟩ := I.list h2
  cases (show v = Value.ref p from rx)
  cases (show u = Value.ref q from ry)
  cases rv2
  cases rv with
  | nil => exact SeqAt.eq_listAt (e := fun _ => true) hl.isList hl2.isList rfl (by omega) (fun j h1 _ => absurd h1 (by simp)) ⟨.bl true, H, I, rfl, k⟩
  | cons a b => exact SeqAt.eq_list_lengthsAt hl.isList hl2.isList (by simp) (by omega) ⟨.bl false, H, I, rfl, k⟩
end
/-! ### heaps that change at the well alone -/
def W3 (a b c : Int) : HO := .lst [.int a, .int b, .int c]
def IsW (H : Hp) (W : Addr) : Prop := ∃ a b c, H W = some (W3 a b c)
structure Wx (W : Addr) (H H' : Hp) : Prop where
  keep : ∀ b o, b ≠ W → H b = some o → H' b = some o
  well : IsW H' W
theorem Wx.refl {W : Addr} {H : Hp} (h : IsW H W) : Wx W H H := ⟨fun _ _ _ e => e, h⟩
theorem Wx.trans {W : Addr} {H H1 H2 : Hp} (a : Wx W H H1) (b : Wx W H1 H2) : Wx W H H2 := ⟨fun c o n e => b.keep c o n (a.keep c o n e), b.well⟩
theorem Wx.free {W : Addr} {H H' : Hp} (e : Wx W H H') {p : Addr} (h : H' p = none) : H p = none := by
  cases q : H p with
  | none => rfl
  | some o =>
    by_cases hp : p = W
    · obtain ⟨a, b, c, hw⟩ := e.well
      rw [hp, hw] at h
      cases h
    · rw [e.keep p o hp q] at h
      cases h
theorem Wx.new {W : Addr} {H H' : Hp} (e : Wx W H H') {p : Addr} {o : HO} (h : H' p = none) : Wx W H (upd H' p o) := by
  obtain ⟨k, a, b, c, hw⟩ := e
  refine ⟨fun d u n q => ?_, a, b, c, ?_⟩
  · rw [upd_ne (ne_of_none (k d u n q) h)]
    exact k d u n q
  · rw [upd_ne (ne_of_none hw h)]
    exact hw
theorem Wx.set {W : Addr} {H H' : Hp} (e : Wx W H H') (a b c : Int) : Wx W H (upd H' W (W3 a b c)) := by
  refine ⟨fun d u n q => ?_, a, b, c, upd_same⟩
  rw [upd_ne n]
  exact e.keep d u n q
theorem IsW.ne {H : Hp} {W p : Addr} (h : IsW H W) (hp : H p = none) : W ≠ p := by
  obtain ⟨a, b, c, hw⟩ := h
  exact ne_of_none hw hp
theorem Wx.same {W : Addr} {H H1 H2 : Hp} (a : Wx W H H1) (b : Same H1 H2) : Wx W H H2 := by
  obtain ⟨k, x, y, z, hw⟩ := a
  exact ⟨fun c o n e => b c o (k c o n e), x, y, z, b _ _ hw⟩
/-- a list (other than the well) that is made here may change -/
theorem Wx.mut {W : Addr} {H H' : Hp} (e : Wx W H H') {p : Addr} {o : HO} (h : H p = none) (n : W ≠ p) : Wx W H (upd H' p o) := by
  obtain ⟨k, a, b, c, hw⟩ := e
  refine ⟨fun d u m q => ?_, a, b, c, ?_⟩
  · rw [upd_ne (ne_of_none q h)]
    exact k d u m q
  · rw [upd_ne n]
    exact hw
def spWell : Sp := fun vs H Q _ => ∃ n : Int, vs = [.int n] ∧ ∀ p a b c, H p = none → Q (.ref p) (upd H p (W3 a b c))
def spDraw : Sp := fun vs H Q _ => ∃ (W : Addr) (m : Int), vs = [.ref W, .int m] ∧ 0 < m ∧ m < 1073741824 ∧ IsW H W ∧ ∀ r H', 0 ≤ r → r < m → Wx W H H' → Q (.int r) H'
theorem mod_lt {n m : Int} (h : 0 < m) : 0 ≤ n % m ∧ n % m < m := ⟨Int.emod_nonneg n (by omega), Int.emod_lt_of_pos n h⟩
theorem cmul_of {i j : Int} (h : 0 ≤ i ∧ i < 2147483647) : CMul i j := .inl (by omega)
/-! ### texts and lists -/
theorem atI_in {α : Type} {xs : List α} {r : Int} (h0 : 0 ≤ r) (h1 : r < xs.length) : ∃ c, c ∈ xs ∧ atI xs r = some c := by
  obtain ⟨n, rfl⟩ : ∃ n : Nat, r = n := ⟨r.toNat, by omega⟩
  have hn : n < xs.length := by omega
  exact ⟨xs[n], List.getElem_mem hn, atI_nat (List.getElem?_eq_getElem hn)⟩
theorem len_tl (z : Str) : z.cps.toList.length = z.length := Array.length_toList
theorem joinL_one : ∀ t : List Nat, joinL [] (t.map fun c => [c]) = t
  | [] => rfl
  | [c] => rfl
  | c :: d :: r => by
    show [c] ++ ([] ++ joinL [] ((d :: r).map fun c => [c])) = c :: d :: r
    rw [joinL_one (d :: r)]
    rfl
theorem join_signs (y : Str) (hy : y.cps.toList = []) (t : List Nat) : Txt.join y (t.map fun c => (⟨#[c]⟩ : Str)) = ⟨t.toArray⟩ := by
  have e : tl (Txt.join y (t.map fun c => (⟨#[c]⟩ : Str))) = t := by
    rw [join_eq, tl_join, List.map_map]
    show joinL (y.cps.toList) (t.map fun c => [c]) = t
    rw [hy, joinL_one]
  rw [← mk_tl (Txt.join y (t.map fun c => (⟨#[c]⟩ : Str))), e]
theorem joinL_len (S : List Nat) : ∀ ps : List (List Nat), (joinL S ps).length ≤ (ps.map List.length).sum + ps.length * S.length
  | [] => Nat.zero_le _
  | [p] => by
    show p.length ≤ p.length + 0 + 1 * S.length
    omega
  | p :: q :: r => by
    have ih := joinL_len S (q :: r)
    show (p ++ (S ++ joinL S (q :: r))).length ≤ p.length + ((q :: r).map List.length).sum + ((q :: r).length + 1) * S.length
    rw [List.length_append, List.length_append, Nat.add_mul]
    omega
theorem join_len (y : Str) (ps : List Str) : (Txt.join y ps).length ≤ (ps.map (·.length)).sum + ps.length * y.length := by
  have h := joinL_len (tl y) (ps.map tl)
  rw [← tl_join, ← join_eq, List.map_map, List.length_map] at h
  have e : (ps.map (List.length ∘ tl)) = ps.map (·.length) := List.map_congr_left fun z _ => len_tl z
  rw [e] at h
  have e2 : (tl (Txt.join y ps)).length = (Txt.join y ps).length := len_tl _
  have e3 : (tl y).length = y.length := len_tl _
  rw [e2, e3] at h
  exact h
theorem sum_ones (t : List Nat) : ((t.map fun c => (⟨#[c]⟩ : Str)).map (·.length)).sum = t.length := by
  induction t with
  | nil => rfl
  | cons c r ih =>
    show 1 + ((r.map fun c => (⟨#[c]⟩ : Str)).map (·.length)).sum = r.length + 1
    rw [ih]
    omega
theorem sum_le {b : Nat} : ∀ ps : List Str, (∀ z ∈ ps, z.length ≤ b) → (ps.map (·.length)).sum ≤ ps.length * b
  | [], _ => Nat.zero_le _
  | z :: r, h => by
    have ih := sum_le r fun y hy => h y (List.mem_cons_of_mem _ hy)
    have hz := h z (List.mem_cons_self ..)
    show z.length + (r.map (·.length)).sum ≤ (r.length + 1) * b
    rw [Nat.add_mul]
    omega
theorem len_app (a b : Str) : (a ++ b).length = a.length + b.length := Array.size_append
theorem cutS_len (z : Str) (lo hi : Option Int) : (cutS z lo hi).length ≤ z.length := by
  show ((z.cps.toList.drop _).take _).toArray.size ≤ _
  rw [List.size_toArray, List.length_take, List.length_drop, len_tl]
  omega
theorem szl {n : Nat} (h : n ≤ 100000) : n ≤ sizeLine := Nat.le_trans h (by decide)
theorem szlt {n : Nat} (h : n < 100000) : n < sizeLine := Nat.lt_of_lt_of_le h (by decide)
def spSigns : Sp := fun vs H Q _ => ∃ (W : Addr) (z : Str) (m : Int), vs = [.ref W, .str z, .int m] ∧ 0 < z.length ∧ z.length ≤ 1000 ∧ 0 ≤ m ∧ m ≤ 1000 ∧ IsW H W ∧
  ∀ (t : List Nat) H', t.length = m.toNat → (∀ c ∈ t, c ∈ z.cps.toList) → Wx W H H' → Q (.str ⟨t.toArray⟩) H'
theorem ints_at {ns : List Int} {r : Int} (h0 : 0 ≤ r) (h1 : r < ns.length) : ∃ n, n ∈ ns ∧ atI (ns.map V.int) r = some (.int n) := by
  obtain ⟨v, hv, ev⟩ := atI_in (xs := ns.map V.int) h0 (by rw [List.length_map]; exact h1)
  obtain ⟨n, hn, rfl⟩ := List.mem_map.mp hv
  exact ⟨n, hn, ev⟩
theorem strs_at {ns : List Str} {r : Int} (h0 : 0 ≤ r) (h1 : r < ns.length) : ∃ n, n ∈ ns ∧ atI (ns.map V.str) r = some (.str n) := by
  obtain ⟨v, hv, ev⟩ := atI_in (xs := ns.map V.str) h0 (by rw [List.length_map]; exact h1)
  obtain ⟨n, hn, rfl⟩ := List.mem_map.mp hv
  exact ⟨n, hn, ev⟩
theorem mk_len (t : List Nat) : (⟨t.toArray⟩ : Str).length = t.length := List.size_toArray
def spText (b : Nat) : Sp := fun vs H Q _ => ∃ (W : Addr), vs = [.ref W] ∧ IsW H W ∧ ∀ t H', t.length ≤ b → Wx W H H' → Q (.str t) H'
theorem same_upd {H : Hp} {p : Addr} {o : HO} (h : H p = none) : Same H (upd H p o) := fun b x e => by
  rw [upd_ne (ne_of_none e h)]
  exact e
theorem same_mut {H H' : Hp} {p : Addr} {o : HO} (e : Same H H') (h : H p = none) : Same H (upd H' p o) := fun a u ha => by
  rw [upd_ne (ne_of_none ha h)]
  exact e a u ha
theorem take_map {α β : Type} {xs : List α} {i : Nat} {c : α} (f : α → β) (h : xs[i]? = some c) : (xs.take (i + 1)).map f = (xs.take i).map f ++ [f c] := by
  rw [List.take_add_one, h, List.map_append]
  rfl
theorem at_l {z : Str} {i c : Nat} (h : z.cps[i]? = some c) : z.cps.toList[i]? = some c := by
  rw [Array.getElem?_toList]
  exact h
theorem filter_take {α β : Type} {xs : List α} {i : Nat} {c : α} (p : α → Bool) (f : α → β) (h : xs[i]? = some c) : ((xs.take (i + 1)).filter p).map f = ((xs.take i).filter p).map f ++ (if p c = true then [f c] else []) := by
  rw [List.take_add_one, h, List.filter_append, List.map_append]
  by_cases hp : p c = true
  · rw [if_pos hp]
    simp [hp]
  · rw [if_neg hp]
    simp [hp]
theorem all_filter {α : Type} (p : α → Bool) (xs : List α) : ((xs.filter fun c => !p c)).isEmpty = xs.all p := by
  induction xs with
  | nil => rfl
  | cons a r ih =>
    cases h : p a with
    | true => simp only [List.filter_cons, h, List.all_cons, Bool.not_true, Bool.true_and]; exact ih
    | false => simp [List.filter_cons, h, List.all_cons]
theorem isEmpty_map {α β : Type} (f : α → β) (xs : List α) : (xs.map f).isEmpty = xs.isEmpty := by
  cases xs <;> rfl
theorem str_at {ss : List Str} {i : Nat} {x : V} (h : (ss.map V.str)[i]? = some x) : ∃ y, x = .str y ∧ ss[i]? = some y ∧ y ∈ ss := by
  rw [List.getElem?_map] at h
  cases e : ss[i]? with
  | none =>
    rw [e] at h
    cases h
  | some y =>
    rw [e] at h
    cases h
    exact ⟨y, rfl, rfl, List.mem_of_getElem? e⟩
theorem cutV_map {α : Type} (f : α → V) (ns : List α) (lo hi : Option Int) : ∃ ms : List α, cutV (ns.map f) lo hi = ms.map f ∧ ms.length ≤ ns.length := by
  refine ⟨(ns.drop (HT.sIx ns.length 0 lo)).take (HT.sIx ns.length ns.length hi - HT.sIx ns.length 0 lo), ?_, ?_⟩
  · unfold cutV
    rw [List.length_map, List.map_take, List.map_drop]
  · rw [List.length_take, List.length_drop]
    omega
theorem int_at {ns : List Int} {i : Nat} {x : V} (h : (ns.map V.int)[i]? = some x) : ∃ n, x = .int n := by
  rw [List.getElem?_map] at h
  cases e : ns[i]? with
  | none =>
    rw [e] at h
    cases h
  | some y =>
    rw [e] at h
    cases h
    exact ⟨y, rfl⟩
theorem dp_bools {K : PySem.W.Frag} {H : Hp} : ∀ bs : List Bool, DpAll K H (bs.map V.bl) (bs.map PyData.bool)
  | [] => .nil
  | b :: r => .cons (.bl b) (dp_bools r)
theorem lay_bools : ∀ bs : List Bool, PyData.canLayAll0 (bs.map PyData.bool) = true
  | [] => rfl
  | _ :: r => by simp [PyData.canLayAll0, PyData.canLay0, lay_bools r]
theorem depth_bools : ∀ bs : List Bool, PyData.depthAll (bs.map PyData.bool) = 0
  | [] => rfl
  | _ :: r => by simp [PyData.depthAll, PyData.depth, depth_bools r]
theorem shaped_bools (bs : List Bool) : SeqAt.shaped (.list (bs.map PyData.bool)) = true := by
  simp [SeqAt.shaped, PyData.canLay0, PyData.depth, lay_bools, depth_bools]
theorem eqv_bools (bs : List Bool) : PyData.eqv (.list (bs.map PyData.bool)) (.list (bs.map PyData.bool)) = true := SeqAt.eqv_refl _ (by simp [PyData.canLay0, lay_bools])
def spLaw (K : PySem.W.Frag) : Sp := fun vs H Q _ => ∃ (a : Addr) (ns : List Int), vs = [.ref a] ∧ SqL K H a (ns.map V.int) ∧ ns.length ≤ 63 ∧ ∀ H', Q (.bl true) H'
/-! ### sorted(xs) of data that are alike, any length: the items by letters of a type B, their values, their data -/
section
variable {B : Type} {val : B → V} {enc : B → PyData}
theorem vals_each : ∀ {bs : List B} {us : List Value}, Vals (bs.map val) us → PySem.W.EachIs (fun u b => RelV (val b) u) us bs
  | [], _, r => by
    cases r
    exact .nil
  | b :: bs, _, r => by
    cases r with
    | cons h t => exact .cons h (vals_each t)
theorem each_vals : ∀ {bs : List B} {us : List Value}, PySem.W.EachIs (fun u b => RelV (val b) u) us bs → Vals (bs.map val) us
  | _, _, .nil => .nil
  | _, _, .cons h t => .cons h (each_vals t)
theorem each_reads {X : Cx} {pins : List (Addr × Obj)} {σ : L2.St} {H : Hp} {s : Shared} (I : Inv X pins σ H s) : ∀ {bs : List B} {us : List Value}, (∀ b ∈ bs, Dp X.K H (val b) (enc b)) → PySem.W.EachIs (fun u b => RelV (val b) u) us bs → PySem.W.EachIs (fun u b => ∃ as, Reads s.heap u (enc b) as) us bs
  | _, _, _, .nil => .nil
  | _, _, hd, .cons h t => .cons (Dp.reads I _ _ _ (hd _ (List.mem_cons_self ..)) h) (each_reads I (fun b hb => hd b (List.mem_cons_of_mem _ hb)) t)
def sortB (enc : B → PyData) (bs : List B) : List B := bs.mergeSort (PySem.W.dataLe false enc)
def rSortB (K : PySem.W.Frag) (val : B → V) (enc : B → PyData) : List V → Hp → VK → Prop := fun vs H Q => ∃ (a : Addr) (bs : List B), vs = [V.ref a] ∧ SqL K H a (bs.map val) ∧ (∀ b ∈ bs, Dp K H (val b) (enc b)) ∧ PySem.W.AllAlike (bs.map enc) ∧ PySem.W.Sortable (bs.map enc) ∧
  (∀ b ∈ bs, (enc b).depth ≤ 60) ∧ ∀ p, H p = none → Q (.ref p) (upd H p (.lst ((sortB enc bs).map val)))
theorem cr_sortB {X : Cx} (val : B → V) (enc : B → PyData) (hu : X.A.units + 64 < cLine) : CallR X (.builtin "sorted") (rSortB X.K val enc) := by
  intro pins s σ H vs us Q I r h
  obtain ⟨a, bs, rfl, hs, hd, ha, hk, hdp, q⟩ := h
  obtain ⟨its, rv, hl, hz⟩ := I.list hs
  rw [Vals.ref1 r]
  have e1 := vals_each rv
  rw [List.length_map] at hz
  refine PySem.W.sorted_data (enc := enc) hl.isList e1 (each_reads I hd e1) ha hk hz (fun b hb => by have := hdp b hb; omega) fun out ho eo => ?_
  obtain ⟨ep, he'⟩ := PyProof.Rows.sortedAll_at s.heap its out.toArray
  have hlen : ((sortB enc bs).map val).length ≤ sizeLine := by
    rw [List.length_map]
    unfold sortB
    rw [List.length_mergeSort]
    exact hz
  exact ⟨.ref _, upd H (s.heap.objs.size + 1) (.lst ((sortB enc bs).map val)), I.laid (t' := s.toks) (fun _ _ => PyProof.Rows.sortedAll_old) (Nat.le_succ _) ⟨hlen, out, ep, each_vals eo, he'⟩, rfl, q _ (I.hok.fresh (Nat.le_succ _))⟩
theorem sortB_perm (enc : B → PyData) (bs : List B) : (sortB enc bs).Perm bs := List.mergeSort_perm ..
theorem sortB_sorted (enc : B → PyData) (bs : List B) : (sortB enc bs).Pairwise fun a b => PySem.W.dataLe false enc a b = true := PySem.W.sort_pairwise (PySem.W.sortLe_total _ _ _) bs
end
theorem perm_sorted_eq {α : Type} {r : α → α → Prop} (anti : ∀ a b, r a b → r b a → a = b) : ∀ A B : List α, A.Pairwise r → B.Pairwise r → A.Perm B → A = B
  | [], B, _, _, h => (List.Perm.nil_eq h)
  | a :: A, [], _, _, h => absurd h.length_eq (by simp)
  | a :: A, b :: B, ha, hb, h => by
    have e : a = b := by
      rcases List.mem_cons.mp (h.mem_iff.mp (List.mem_cons_self ..)) with e | e
      · exact e
      · rcases List.mem_cons.mp (h.mem_iff.mpr (List.mem_cons_self ..)) with e' | e'
        · exact e'.symm
        · exact anti a b ((List.pairwise_cons.mp ha).1 b e') ((List.pairwise_cons.mp hb).1 a e)
    subst e
    rw [perm_sorted_eq anti A B (List.pairwise_cons.mp ha).2 (List.pairwise_cons.mp hb).2 (List.Perm.cons_inv h)]
/-! ### pairs of texts, in order -/
def ltS (a b : Str) : Prop := a.cps.toList < b.cps.toList
instance (a b : Str) : Decidable (ltS a b) := inferInstanceAs (Decidable (a.cps.toList < b.cps.toList))
theorem ltS_irr (a : Str) : ¬ ltS a a := List.lt_irrefl _
theorem ltS_trans {a b c : Str} (h : ltS a b) (h2 : ltS b c) : ltS a c := List.lt_trans h h2
theorem ltS_tri (a b : Str) : ltS a b ∨ a = b ∨ ltS b a := by
  by_cases h : ltS a b
  · exact .inl h
  · by_cases h2 : ltS b a
    · exact .inr (.inr h2)
    · exact .inr (.inl (PyProof.Rows.ext_toList (List.le_antisymm (List.not_lt.mp h2) (List.not_lt.mp h))))
def leSS (p q : Str × Str) : Prop := ltS p.1 q.1 ∨ (p.1 = q.1 ∧ ¬ ltS q.2 p.2)
theorem leSS_anti (p q : Str × Str) (h : leSS p q) (h2 : leSS q p) : p = q := by
  obtain ⟨a, b⟩ := p
  obtain ⟨c, d⟩ := q
  rcases h with h | ⟨e, h⟩
  · rcases h2 with h2 | ⟨e2, h2⟩
    · exact absurd (ltS_trans h h2) (ltS_irr _)
    · have e2' : c = a := e2
      subst e2'
      exact absurd h (ltS_irr _)
  · have e' : a = c := e
    subst e'
    rcases h2 with h2 | ⟨e2, h2⟩
    · exact absurd h2 (ltS_irr _)
    · rcases ltS_tri b d with x | x | x
      · exact absurd x h2
      · rw [x]
      · exact absurd x h
theorem dataLe_ss {B : Type} (x y : B → Str) (p q : B) (h : PySem.W.dataLe false (fun b => .tuple [.str (x b), .str (y b)]) p q = true) : leSS (x p, y p) (x q, y q) := by
  have e : PySem.W.dataLt (.tuple [.str (x q), .str (y q)]) (.tuple [.str (x p), .str (y p)]) = false := by
    have h' : (!PySem.W.dataLt (.tuple [.str (x q), .str (y q)]) (.tuple [.str (x p), .str (y p)])) = true := h
    simpa using h'
  rw [PySem.W.dataLt_pair (by simp [PySem.W.alike]) (by simp [PySem.W.alike]), PySem.W.dataLt_str, PySem.W.dataLt_str] at e
  simp only [PyData.eqv, beq_iff_eq] at e
  by_cases h1 : x q = x p
  · rw [if_pos h1] at e
    by_cases h2 : y q = y p
    · refine .inr ⟨h1.symm, fun z => ?_⟩
      have z' : ltS (y q) (y p) := z
      rw [h2] at z'
      exact ltS_irr _ z'
    · rw [if_neg h2] at e
      exact .inr ⟨h1.symm, of_decide_eq_false e⟩
  · rw [if_neg h1] at e
    rcases ltS_tri (x p) (x q) with z | z | z
    · exact .inl z
    · exact absurd z.symm h1
    · exact absurd z (of_decide_eq_false e)
end My
namespace My
open PySem PySem.Spec PyProof.Rows L2 TL
def Asc (z : Str) : Prop := ∀ c ∈ z.cps.toList, c < 128
instance (z : Str) : Decidable (Asc z) := inferInstanceAs (Decidable (∀ c ∈ z.cps.toList, c < 128))
theorem asc_mk {t : List Nat} (h : ∀ c ∈ t, c < 128) : Asc ⟨t.toArray⟩ := fun c hc => h c (by simpa using hc)
theorem asc_app {a b : Str} (ha : Asc a) (hb : Asc b) : Asc (a ++ b) := by
  intro c hc
  have e : (a ++ b).cps.toList = a.cps.toList ++ b.cps.toList := Array.toList_append
  rw [e] at hc
  rcases List.mem_append.mp hc with h | h
  · exact ha c h
  · exact hb c h
theorem asc_cut {z : Str} (h : Asc z) (lo hi : Option Int) : Asc (cutS z lo hi) := by
  refine asc_mk fun c hc => h c ?_
  exact List.mem_of_mem_drop (List.mem_of_mem_take hc)
theorem inV_strs (x : Str) (F : List Str) : inV (.str x) (F.map V.str) = decide (x ∈ F) := by
  unfold inV
  rw [List.any_map, Bool.eq_iff_iff, List.any_eq_true, decide_eq_true_iff]
  constructor
  · rintro ⟨y, hy, e⟩
    have e' : (y == x) = true := e
    rw [← eq_of_beq e']
    exact hy
  · intro h
    exact ⟨x, h, by show (x == x) = true; exact beq_self_eq_true x⟩
theorem flat_strs (F : List Str) : (F.map V.str).all flatV = true := by
  rw [List.all_map, List.all_eq_true]
  intro x _
  rfl
/-! ### texts as data -/
theorem dp_strs {K : PySem.W.Frag} {H : Hp} : ∀ F : List Str, DpAll K H (F.map V.str) (F.map PyData.str)
  | [] => .nil
  | b :: r => .cons (.str b) (dp_strs r)
theorem ok_asc {z : Str} (h : Asc z) : PyData.strOk z = true := by
  unfold PyData.strOk
  rw [Array.all_eq_true']
  intro c hc
  have : c < 128 := h c (by simpa using hc)
  exact decide_eq_true (by omega)
theorem lay_strs : ∀ F : List Str, (∀ z ∈ F, Asc z) → PyData.canLayAll0 (F.map PyData.str) = true
  | [], _ => rfl
  | z :: r, h => by simp [PyData.canLayAll0, PyData.canLay0, ok_asc (h z (List.mem_cons_self ..)), lay_strs r fun y hy => h y (List.mem_cons_of_mem _ hy)]
theorem depth_strs : ∀ F : List Str, PyData.depthAll (F.map PyData.str) = 0
  | [] => rfl
  | _ :: r => by simp [PyData.depthAll, PyData.depth, depth_strs r]
theorem shaped_strs (F : List Str) (h : ∀ z ∈ F, Asc z) : SeqAt.shaped (.list (F.map PyData.str)) = true := by
  simp [SeqAt.shaped, PyData.canLay0, PyData.depth, lay_strs F h, depth_strs]
end My
namespace My
open PySem PySem.Spec PyProof.Rows L2 TL
/-! ### calls with keywords: the parameters' values picked out of those that lack and those that are told -/
def pickKw {α : Type} : List (Nat ⊕ Nat) → List α → List α → List α
  | [], _, _ => []
  | .inl i :: r, mv, ws => (mv[i]?).toList ++ pickKw r mv ws
  | .inr i :: r, mv, ws => (ws[i]?).toList ++ pickKw r mv ws
theorem vals_opt {xs : List V} {us : List Value} (r : Vals xs us) (i : Nat) : (xs[i]? = none ∧ us[i]? = none) ∨ ∃ x u, xs[i]? = some x ∧ us[i]? = some u ∧ RelV x u := by
  cases e : xs[i]? with
  | some x =>
    obtain ⟨u, h, ru⟩ := r.get e
    exact .inr ⟨x, u, rfl, h, ru⟩
  | none =>
    have h := List.getElem?_eq_none_iff.mp e
    rw [r.length] at h
    exact .inl ⟨rfl, List.getElem?_eq_none_iff.mpr h⟩
theorem opt_vals {xs : List V} {us : List Value} (r : Vals xs us) (i : Nat) : Vals (xs[i]?).toList (us[i]?).toList := by
  rcases vals_opt r i with ⟨e1, e2⟩ | ⟨x, u, e1, e2, h⟩
  · rw [e1, e2]
    exact .nil
  · rw [e1, e2]
    exact .cons h .nil
theorem pick_vals {mz zs : List V} {mv ws : List Value} (r2 : Vals mz mv) (r3 : Vals zs ws) : ∀ sel : List (Nat ⊕ Nat), Vals (pickKw sel mz zs) (pickKw sel mv ws)
  | [] => .nil
  | .inl i :: r => (opt_vals r2 i).append (pick_vals r2 r3 r)
  | .inr i :: r => (opt_vals r3 i).append (pick_vals r2 r3 r)
theorem pick_rel (sel : List (Nat ⊕ Nat)) {vs mz zs : List V} {us mv ws : List Value} (r1 : Vals vs us) (r2 : Vals mz mv) (r3 : Vals zs ws) : Vals (vs ++ pickKw sel mz zs) (us ++ pickKw sel mv ws) := r1.append (pick_vals r2 r3 sel)
/-! ### an expression, a test, by what it gives: the rest is read once -/
section
variable {X : Cx}
def tPure (t : TE) : TE := fun σ H Q => ∃ v, t σ H (fun y H' => y = v ∧ H' = H) ∧ Q v H
theorem pe_pure {e : Expr} {t : TE} (h : PE X e t) : PE X e (tPure t) := by
  refine ⟨fun pins s σ H Q I hw => ?_⟩
  obtain ⟨v, h1, h2⟩ := hw
  refine thn (h.run pins s σ H _ I h1) fun u s1 ⟨x, H1, I1, r1, q1⟩ => ?_
  obtain ⟨rfl, rfl⟩ := q1
  exact ⟨x, H1, I1, r1, h2⟩
def tPureT (t : TT) : TT := fun σ H Q => ∃ b, t σ H (fun y H' => y = b ∧ H' = H) ∧ Q b H
theorem pt_pure {e : Expr} {t : TT} (h : PT X e t) : PT X e (tPureT t) := by
  refine ⟨fun pins s σ H Q I hw => ?_⟩
  obtain ⟨v, h1, h2⟩ := hw
  refine thn (h.run pins s σ H _ I h1) fun u s1 ⟨H1, I1, q1⟩ => ?_
  obtain ⟨rfl, rfl⟩ := q1
  exact ⟨H1, I1, h2⟩
def tMid (t : TE) : TE := fun σ H Q => ∃ R : VK, t σ H R ∧ ∀ v H', R v H' → Q v H'
theorem pe_mid {e : Expr} {t : TE} (h : PE X e t) : PE X e (tMid t) := by
  refine ⟨fun pins s σ H Q I hw => ?_⟩
  obtain ⟨R, h1, h2⟩ := hw
  exact thn (h.run pins s σ H _ I h1) fun u s1 ⟨x, H1, I1, r1, q1⟩ => ⟨x, H1, I1, r1, h2 _ _ q1⟩
def tMidT (t : TT) : TT := fun σ H Q => ∃ R : Bool → Hp → Prop, t σ H R ∧ ∀ b H', R b H' → Q b H'
theorem pt_mid {e : Expr} {t : TT} (h : PT X e t) : PT X e (tMidT t) := by
  refine ⟨fun pins s σ H Q I hw => ?_⟩
  obtain ⟨R, h1, h2⟩ := hw
  exact thn (h.run pins s σ H _ I h1) fun u s1 ⟨H1, I1, q1⟩ => ⟨H1, I1, h2 _ _ q1⟩
end
/-! ### fields -/
theorem len_putF (f : Str) (v : V) : ∀ fs : List (Str × V), (putF f v fs).length ≤ fs.length + 1
  | [] => Nat.le_refl _
  | (g, x) :: r => by
    unfold putF
    split
    · exact Nat.le_succ _
    · exact Nat.succ_le_succ (len_putF f v r)
theorem few {n : Nat} {f : Str} {v : V} {fs : List (Str × V)} (h : fs.length ≤ n) : (putF f v fs).length ≤ n + 1 := Nat.le_trans (len_putF f v fs) (Nat.succ_le_succ h)
theorem few0 : ([] : List (Str × V)).length ≤ 0 := Nat.le_refl _
theorem fewL {n m : Nat} (h : n ≤ m) (k : m < 1000) : n < 1000 := Nat.lt_of_le_of_lt h k
theorem ne_same {K : PySem.W.Frag} {H : Hp} {x y : V} {d : PyData} {Q : VK} (hx : Dp K H x d) (hy : Dp K H y d) (sh : SeqAt.shaped d = true) (q : Q (.bl false) H) : rNeD K x y H Q := by
  refine ⟨d, d, hx, hy, sh, sh, ?_⟩
  rw [SeqAt.eqv_refl _ (SeqAt.canLay_of_shaped sh)]
  exact q
theorem kit2 {K : PySem.W.Frag} {n m : String} {b : Bool} (h : kitB n m = some b) : PySem.W.kitOne K (.type n) (.type m) = some b := kit_ty h
def oV : Option Int → V
  | none => .non
  | some n => .int n
def od : Option Int → PyData
  | none => .none
  | some n => .int n
theorem dp_od {K : PySem.W.Frag} {H : Hp} (x : Option Int) : Dp K H (oV x) (od x) := by
  cases x with
  | none => exact .non
  | some n => exact .int n
end My
namespace My
open PySem PySem.Spec PyProof.Rows L2 TL
/-! ### min(xs, default=d), max(xs, default=d) of ints -/
def minI : List Int → Option Int
  | [] => none
  | n :: ns => some (ns.foldl min n)
def maxI : List Int → Option Int
  | [] => none
  | n :: ns => some (ns.foldl max n)
def orV (d : V) : Option Int → V
  | none => d
  | some m => .int m
theorem dp_ints {K : PySem.W.Frag} {H : Hp} : ∀ ns : List Int, DpAll K H (ns.map V.int) (ns.map PyData.int)
  | [] => .nil
  | b :: r => .cons (.int b) (dp_ints r)
theorem depth_ints : ∀ ns : List Int, PyData.depthAll (ns.map PyData.int) = 0
  | [] => rfl
  | _ :: r => by simp [PyData.depthAll, PyData.depth, depth_ints r]
theorem alike_ints (ns : List Int) : PySem.W.AlikeAll (ns.map PyData.int) := by
  refine ⟨fun x hx y hy => ?_, fun x hx => ?_⟩
  · obtain ⟨a, _, rfl⟩ := List.mem_map.mp hx
    obtain ⟨b, _, rfl⟩ := List.mem_map.mp hy
    simp [PySem.W.alike]
  · obtain ⟨a, _, rfl⟩ := List.mem_map.mp hx
    intro z
    cases z
def rDf (K : PySem.W.Frag) (f : List Int → Option Int) : List V → List V → Hp → VK → Prop := fun xs zs H Q => ∃ (a : Addr) (ns : List Int) (d : V), xs = [.ref a] ∧ zs = [d] ∧ SqL K H a (ns.map V.int) ∧ Q (orV d (f ns)) H
theorem cr_minDf {X : Cx} (hc : X.calm = true) (hu : X.A.units + 64 < cLine) : CallRK X (.builtin "min") ["default"] (rDf X.K minI) := by
  intro pins s σ H xs zs us ws Q I r rz h
  obtain ⟨a, ns, d, rfl, rfl, hs, q⟩ := h
  obtain ⟨its, rv, hl, _⟩ := I.list hs
  rw [Vals.ref1 r]
  obtain ⟨u, rfl, ru⟩ := rz.one
  obtain ⟨as, ra⟩ := Dp.readsAll I _ _ _ (dp_ints ns) rv
  refine PySem.W.min_list_default (xs := ns.map PyData.int) (I.ok.hd hc) hl.isList (by simpa using ra) (alike_ints ns) (by rw [depth_ints]; omega) (fun e h' tk hk => ?_) (fun y ys i v h' tk bs e hv rd hk => ?_)
  · cases ns with
    | nil => exact ⟨d, H, I.kept hk, ru, q⟩
    | cons n r => cases e
  · cases ns with
    | nil => cases e
    | cons n r =>
      cases e
      rw [PySem.W.minD_ints] at rd
      cases rd
      exact ⟨.int _, H, I.kept hk, ⟨_, rfl⟩, q⟩
theorem cr_maxDf {X : Cx} (hc : X.calm = true) (hu : X.A.units + 64 < cLine) : CallRK X (.builtin "max") ["default"] (rDf X.K maxI) := by
  intro pins s σ H xs zs us ws Q I r rz h
  obtain ⟨a, ns, d, rfl, rfl, hs, q⟩ := h
  obtain ⟨its, rv, hl, _⟩ := I.list hs
  rw [Vals.ref1 r]
  obtain ⟨u, rfl, ru⟩ := rz.one
  obtain ⟨as, ra⟩ := Dp.readsAll I _ _ _ (dp_ints ns) rv
  refine PySem.W.max_list_default (xs := ns.map PyData.int) (I.ok.hd hc) hl.isList (by simpa using ra) (alike_ints ns) (by rw [depth_ints]; omega) (fun e h' tk hk => ?_) (fun y ys i v h' tk bs e hv rd hk => ?_)
  · cases ns with
    | nil => exact ⟨d, H, I.kept hk, ru, q⟩
    | cons n r => cases e
  · cases ns with
    | nil => cases e
    | cons n r =>
      cases e
      rw [PySem.W.maxD_ints] at rd
      cases rd
      exact ⟨.int _, H, I.kept hk, ⟨_, rfl⟩, q⟩
/-! ### x is True, x is False, whatever x is -/
def rIsA : R2 := fun x y H Q => ∃ b : Bool, y = .bl b ∧ Q (.bl (decide (x = .bl b))) H
def rNotA : R2 := fun x y H Q => ∃ b : Bool, y = .bl b ∧ Q (.bl (!decide (x = .bl b))) H
theorem op_isA {X : Cx} : OpR X (compareOp .Is) rIsA := by
  intro pins s σ H x y v u Q I rx ry h
  obtain ⟨b, rfl, q⟩ := h
  cases (show u = Value.bool b from ry)
  cases x with
  | bl a =>
    cases (show v = Value.bool a from rx)
    by_cases e : a = b
    · subst e
      exact wpAny_is_self rfl ⟨.bl true, H, I, rfl, by simpa using q⟩
    · exact wpAny_is_other rfl (fun z => e (Value.bool.inj z)) ⟨.bl false, H, I, rfl, by simpa [e] using q⟩
  | non =>
    cases (show v = Value.none from rx)
    exact wpAny_is_other rfl (fun z => by cases z) ⟨.bl false, H, I, rfl, by simpa using q⟩
  | int i =>
    obtain ⟨t, rfl⟩ := rx
    exact wpAny_is_other rfl (fun z => by cases z) ⟨.bl false, H, I, rfl, by simpa using q⟩
  | str i =>
    obtain ⟨t, rfl⟩ := rx
    exact wpAny_is_other rfl (fun z => by cases z) ⟨.bl false, H, I, rfl, by simpa using q⟩
  | byt i =>
    obtain ⟨t, rfl⟩ := rx
    exact wpAny_is_other rfl (fun z => by cases z) ⟨.bl false, H, I, rfl, by simpa using q⟩
  | flt i =>
    obtain ⟨t, rfl⟩ := rx
    exact wpAny_is_other rfl (fun z => by cases z) ⟨.bl false, H, I, rfl, by simpa using q⟩
  | ref i =>
    cases (show v = Value.ref i from rx)
    exact wpAny_is_other rfl (fun z => by cases z) ⟨.bl false, H, I, rfl, by simpa using q⟩
  | ty i =>
    cases (show v = Value.type i from rx)
    exact wpAny_is_other rfl (fun z => by cases z) ⟨.bl false, H, I, rfl, by simpa using q⟩
theorem op_notA {X : Cx} : OpR X (compareOp .IsNot) rNotA := by
  intro pins s σ H x y v u Q I rx ry h
  obtain ⟨b, rfl, q⟩ := h
  cases (show u = Value.bool b from ry)
  cases x with
  | bl a =>
    cases (show v = Value.bool a from rx)
    by_cases e : a = b
    · subst e
      exact wpAny_isNot_self rfl ⟨.bl false, H, I, rfl, by simpa using q⟩
    · exact wpAny_isNot_other rfl (fun z => e (Value.bool.inj z)) ⟨.bl true, H, I, rfl, by simpa [e] using q⟩
  | non =>
    cases (show v = Value.none from rx)
    exact wpAny_isNot_other rfl (fun z => by cases z) ⟨.bl true, H, I, rfl, by simpa using q⟩
  | int i =>
    obtain ⟨t, rfl⟩ := rx
    exact wpAny_isNot_other rfl (fun z => by cases z) ⟨.bl true, H, I, rfl, by simpa using q⟩
  | str i =>
    obtain ⟨t, rfl⟩ := rx
    exact wpAny_isNot_other rfl (fun z => by cases z) ⟨.bl true, H, I, rfl, by simpa using q⟩
  | byt i =>
    obtain ⟨t, rfl⟩ := rx
    exact wpAny_isNot_other rfl (fun z => by cases z) ⟨.bl true, H, I, rfl, by simpa using q⟩
  | flt i =>
    obtain ⟨t, rfl⟩ := rx
    exact wpAny_isNot_other rfl (fun z => by cases z) ⟨.bl true, H, I, rfl, by simpa using q⟩
  | ref i =>
    cases (show v = Value.ref i from rx)
    exact wpAny_isNot_other rfl (fun z => by cases z) ⟨.bl true, H, I, rfl, by simpa using q⟩
  | ty i =>
    cases (show v = Value.type i from rx)
    exact wpAny_isNot_other rfl (fun z => by cases z) ⟨.bl true, H, I, rfl, by simpa using q⟩
end My
namespace My
open PySem PySem.Spec PyProof.Rows L2 TL
def topS (i : Nat) : Stmt := PySem.Challenge.pw_pagelodge_k15_both_of_two.main.body.getD i (.Pass ⟨0, 0, 0, 0⟩)
abbrev s_lesser : Stmt := topS 4
theorem sc_lesser : FnScope ["one", "other"] ["one", "other"] (defScope s_lesser) := ⟨rfl, rfl, rfl, by decide +kernel, rfl, by decide +kernel, by decide +kernel⟩
abbrev s_law_well : Stmt := topS 7
theorem sc_law_well : FnScope ["_law_cell"] ["_law_cell"] (defScope s_law_well) := ⟨rfl, rfl, rfl, by decide +kernel, rfl, by decide +kernel, by decide +kernel⟩
abbrev s_law_draw : Stmt := topS 8
theorem sc_law_draw : FnScope ["_law_well_here", "_law_many", "_law_found", "_law_number_here"] ["_law_well_here", "_law_many"] (defScope s_law_draw) := ⟨rfl, rfl, rfl, by decide +kernel, rfl, by decide +kernel, by decide +kernel⟩
abbrev s_law_number : Stmt := topS 9
theorem sc_law_number : FnScope ["_law_well_here", "_law_near", "_law_lot", "_law_great", "_law_k", "_law_small"] ["_law_well_here", "_law_near"] (defScope s_law_number) := ⟨rfl, rfl, rfl, by decide +kernel, rfl, by decide +kernel, by decide +kernel⟩
abbrev s_law_truth : Stmt := topS 10
theorem sc_law_truth : FnScope ["_law_well_here"] ["_law_well_here"] (defScope s_law_truth) := ⟨rfl, rfl, rfl, by decide +kernel, rfl, by decide +kernel, by decide +kernel⟩
abbrev s_law_row : Stmt := topS 11
theorem sc_law_row : FnScope ["_law_well_here", "_law_many", "_law_truths", "_law_ahead", "_law_found", "_law_k", "_law_near"] ["_law_well_here", "_law_many", "_law_truths", "_law_ahead"] (defScope s_law_row) := ⟨rfl, rfl, rfl, by decide +kernel, rfl, by decide +kernel, by decide +kernel⟩
abbrev s_law_rule : Stmt := topS 12
theorem sc_law_rule : FnScope ["_law_some", "_law_a", "_law_b", "_law_c", "_law_d", "_law_e", "_law_f", "_law_g", "_law_h"] ["_law_some"] (defScope s_law_rule) := ⟨rfl, rfl, rfl, by decide +kernel, rfl, by decide +kernel, by decide +kernel⟩
abbrev s_law_wish : Stmt := topS 13
theorem sc_law_wish : FnScope ["_law_some", "_law_a", "_law_b", "_law_c", "_law_d", "_law_e", "_law_f"] ["_law_some"] (defScope s_law_wish) := ⟨rfl, rfl, rfl, by decide +kernel, rfl, by decide +kernel, by decide +kernel⟩
abbrev s_law_rule_fields : Stmt := topS 14
theorem sc_law_rule_fields : FnScope ["_law_one"] ["_law_one"] (defScope s_law_rule_fields) := ⟨rfl, rfl, rfl, by decide +kernel, rfl, by decide +kernel, by decide +kernel⟩
abbrev s_law_wish_fields : Stmt := topS 15
theorem sc_law_wish_fields : FnScope ["_law_one"] ["_law_one"] (defScope s_law_wish_fields) := ⟨rfl, rfl, rfl, by decide +kernel, rfl, by decide +kernel, by decide +kernel⟩
abbrev s_law_less : Stmt := topS 16
theorem sc_law_less : FnScope ["_law_one", "_law_other"] ["_law_one", "_law_other"] (defScope s_law_less) := ⟨rfl, rfl, rfl, by decide +kernel, rfl, by decide +kernel, by decide +kernel⟩
abbrev s_law_rule_both : Stmt := topS 17
theorem sc_law_rule_both : FnScope ["_law_one", "_law_other", "_law_found", "_law_k"] ["_law_one", "_law_other"] (defScope s_law_rule_both) := ⟨rfl, rfl, rfl, by decide +kernel, rfl, by decide +kernel, by decide +kernel⟩
abbrev s_law_wish_both : Stmt := topS 18
theorem sc_law_wish_both : FnScope ["_law_one", "_law_other", "_law_found", "_law_k"] ["_law_one", "_law_other"] (defScope s_law_wish_both) := ⟨rfl, rfl, rfl, by decide +kernel, rfl, by decide +kernel, by decide +kernel⟩
abbrev s_law_true : Stmt := topS 19
theorem sc_law_true : FnScope ["_law_fields", "_law_at", "_law_k"] ["_law_fields", "_law_at"] (defScope s_law_true) := ⟨rfl, rfl, rfl, by decide +kernel, rfl, by decide +kernel, by decide +kernel⟩
abbrev s_law_same : Stmt := topS 20
theorem sc_law_same : FnScope ["_law_one", "_law_fields", "_law_found"] ["_law_one", "_law_fields"] (defScope s_law_same) := ⟨rfl, rfl, rfl, by decide +kernel, rfl, by decide +kernel, by decide +kernel⟩
abbrev s_law_pair : Stmt := topS 21
theorem sc_law_pair : FnScope ["_law_made", "_law_rows", "_law_due", "_law_j", "_law_k", "_law_one", "_law_other"] ["_law_made", "_law_rows", "_law_due"] (defScope s_law_pair) := ⟨rfl, rfl, rfl, by decide +kernel, rfl, by decide +kernel, by decide +kernel⟩
abbrev s_law : Stmt := topS 22
theorem sc_law : FnScope ["_law_script", "_law_cell", "_law_well_here", "_law_again", "_law_none", "_law_rows", "_law_mine", "_law_k", "_law_rules", "_law_wishes", "_law_due", "_law_wished", "_law_j", "_law_three", "_law_last", "_law_row_here"] ["_law_script"] (defScope s_law) := ⟨rfl, rfl, rfl, by decide +kernel, rfl, by decide +kernel, by decide +kernel⟩
abbrev s_Rule_init : Stmt := inClass (topS 2) 0
theorem sc_Rule_init : FnScope ["self", "keep", "worn", "alone", "anew", "own", "common", "never", "strict"] ["self", "keep", "worn", "alone", "anew", "own", "common", "never", "strict"] (defScope s_Rule_init) := ⟨rfl, rfl, rfl, by decide +kernel, rfl, by decide +kernel, by decide +kernel⟩
abbrev s_Rule_both : Stmt := inClass (topS 2) 2
theorem sc_Rule_both : FnScope ["self", "other"] ["self", "other"] (defScope s_Rule_both) := ⟨rfl, rfl, rfl, by decide +kernel, rfl, by decide +kernel, by decide +kernel⟩
abbrev s_Wish_init : Stmt := inClass (topS 3) 0
theorem sc_Wish_init : FnScope ["self", "atmost", "left", "worn", "anew", "kept", "firm"] ["self", "atmost", "left", "worn", "anew", "kept", "firm"] (defScope s_Wish_init) := ⟨rfl, rfl, rfl, by decide +kernel, rfl, by decide +kernel, by decide +kernel⟩
abbrev s_Wish_both : Stmt := inClass (topS 3) 2
theorem sc_Wish_both : FnScope ["self", "other"] ["self", "other"] (defScope s_Wish_both) := ⟨rfl, rfl, rfl, by decide +kernel, rfl, by decide +kernel, by decide +kernel⟩
structure Def (K : PySem.W.Frag) (mg : Str → Option Value) (x : Str) (st : Stmt) (ps : List Str) (f : Addr) (fd : FuncData) : Prop where
  F : Fun K x x st f fd
  b : Binds K fd ps []
  g : mg x = some (.ref f)
structure DefM (K : PySem.W.Frag) (x qual : Str) (st : Stmt) (ps : List Str) (f : Addr) (fd : FuncData) : Prop where
  F : Fun K x qual st f fd
  b : Binds K fd ps []
structure DefK (K : PySem.W.Frag) (x qual : Str) (st : Stmt) (f : Addr) (fd : FuncData) : Prop where
  F : Fun K x qual st f fd
structure DefG (K : PySem.W.Frag) (mg : Str → Option Value) (x qual : Str) (st : Stmt) (f : Addr) (fd : FuncData) : Prop where
  F : Fun K x qual st f fd
  g : mg x = some (.ref f)
structure Txt (K : PySem.W.Frag) (mg : Str → Option Value) where
  f_lesser : Addr
  fd_lesser : FuncData
  d_lesser : Def K mg "lesser" s_lesser ["one", "other"] f_lesser fd_lesser
  f_law_well : Addr
  fd_law_well : FuncData
  d_law_well : Def K mg "_law_well" s_law_well ["_law_cell"] f_law_well fd_law_well
  f_law_draw : Addr
  fd_law_draw : FuncData
  d_law_draw : Def K mg "_law_draw" s_law_draw ["_law_well_here", "_law_many"] f_law_draw fd_law_draw
  f_law_number : Addr
  fd_law_number : FuncData
  d_law_number : Def K mg "_law_number" s_law_number ["_law_well_here", "_law_near"] f_law_number fd_law_number
  f_law_truth : Addr
  fd_law_truth : FuncData
  d_law_truth : Def K mg "_law_truth" s_law_truth ["_law_well_here"] f_law_truth fd_law_truth
  f_law_row : Addr
  fd_law_row : FuncData
  d_law_row : Def K mg "_law_row" s_law_row ["_law_well_here", "_law_many", "_law_truths", "_law_ahead"] f_law_row fd_law_row
  f_law_rule : Addr
  fd_law_rule : FuncData
  d_law_rule : Def K mg "_law_rule" s_law_rule ["_law_some"] f_law_rule fd_law_rule
  f_law_wish : Addr
  fd_law_wish : FuncData
  d_law_wish : Def K mg "_law_wish" s_law_wish ["_law_some"] f_law_wish fd_law_wish
  f_law_rule_fields : Addr
  fd_law_rule_fields : FuncData
  d_law_rule_fields : Def K mg "_law_rule_fields" s_law_rule_fields ["_law_one"] f_law_rule_fields fd_law_rule_fields
  f_law_wish_fields : Addr
  fd_law_wish_fields : FuncData
  d_law_wish_fields : Def K mg "_law_wish_fields" s_law_wish_fields ["_law_one"] f_law_wish_fields fd_law_wish_fields
  f_law_less : Addr
  fd_law_less : FuncData
  d_law_less : Def K mg "_law_less" s_law_less ["_law_one", "_law_other"] f_law_less fd_law_less
  f_law_rule_both : Addr
  fd_law_rule_both : FuncData
  d_law_rule_both : Def K mg "_law_rule_both" s_law_rule_both ["_law_one", "_law_other"] f_law_rule_both fd_law_rule_both
  f_law_wish_both : Addr
  fd_law_wish_both : FuncData
  d_law_wish_both : Def K mg "_law_wish_both" s_law_wish_both ["_law_one", "_law_other"] f_law_wish_both fd_law_wish_both
  f_law_true : Addr
  fd_law_true : FuncData
  d_law_true : Def K mg "_law_true" s_law_true ["_law_fields", "_law_at"] f_law_true fd_law_true
  f_law_same : Addr
  fd_law_same : FuncData
  d_law_same : Def K mg "_law_same" s_law_same ["_law_one", "_law_fields"] f_law_same fd_law_same
  f_law_pair : Addr
  fd_law_pair : FuncData
  d_law_pair : Def K mg "_law_pair" s_law_pair ["_law_made", "_law_rows", "_law_due"] f_law_pair fd_law_pair
  f_law : Addr
  fd_law : FuncData
  d_law : Def K mg "law" s_law ["_law_script"] f_law fd_law
  f_Rule_init : Addr
  fd_Rule_init : FuncData
  d_Rule_init : DefK K "__init__" "Rule.__init__" s_Rule_init  f_Rule_init fd_Rule_init
  f_Rule_both : Addr
  fd_Rule_both : FuncData
  d_Rule_both : DefM K "both" "Rule.both" s_Rule_both ["self", "other"] f_Rule_both fd_Rule_both
  f_Wish_init : Addr
  fd_Wish_init : FuncData
  d_Wish_init : DefK K "__init__" "Wish.__init__" s_Wish_init  f_Wish_init fd_Wish_init
  f_Wish_both : Addr
  fd_Wish_both : FuncData
  d_Wish_both : DefM K "both" "Wish.both" s_Wish_both ["self", "other"] f_Wish_both fd_Wish_both
  C_Rule : Addr
  g_Rule : mg "Rule" = some (.ref C_Rule)
  cl_Rule : Cls K C_Rule
  mk_Rule : Mk K C_Rule f_Rule_init
  n_Rule_keep : NoAttr K C_Rule "keep"
  n_Rule_worn : NoAttr K C_Rule "worn"
  n_Rule_alone : NoAttr K C_Rule "alone"
  n_Rule_anew : NoAttr K C_Rule "anew"
  n_Rule_own : NoAttr K C_Rule "own"
  n_Rule_common : NoAttr K C_Rule "common"
  n_Rule_never : NoAttr K C_Rule "never"
  n_Rule_strict : NoAttr K C_Rule "strict"
  ha_Rule : PySem.W.findIn K (.ref C_Rule) "__class__" = some (some (.builtin "object.__class__"))
  hm_Rule : PySem.W.mroIn K C_Rule (.type "object") = some true
  me_Rule_both : Meth K C_Rule "both" f_Rule_both
  C_Wish : Addr
  g_Wish : mg "Wish" = some (.ref C_Wish)
  cl_Wish : Cls K C_Wish
  mk_Wish : Mk K C_Wish f_Wish_init
  n_Wish_atmost : NoAttr K C_Wish "atmost"
  n_Wish_left : NoAttr K C_Wish "left"
  n_Wish_worn : NoAttr K C_Wish "worn"
  n_Wish_anew : NoAttr K C_Wish "anew"
  n_Wish_kept : NoAttr K C_Wish "kept"
  n_Wish_firm : NoAttr K C_Wish "firm"
  ha_Wish : PySem.W.findIn K (.ref C_Wish) "__class__" = some (some (.builtin "object.__class__"))
  hm_Wish : PySem.W.mroIn K C_Wish (.type "object") = some true
  me_Wish_both : Meth K C_Wish "both" f_Wish_both
  hn_cls : PySem.W.specialIn K (.builtin "object.__class__") "__get__" = some (some (.builtin "getset_descriptor.__get__"))
  htk_cls : PySem.W.takesIn K (.builtin "object.__class__") = some true
  ki_Rule_Rule : PySem.W.kitOne K (.ref C_Rule) (.ref C_Rule) = some true
  ki_Rule_Wish : PySem.W.kitOne K (.ref C_Rule) (.ref C_Wish) = some false
  ki_Wish_Rule : PySem.W.kitOne K (.ref C_Wish) (.ref C_Rule) = some false
  ki_Wish_Wish : PySem.W.kitOne K (.ref C_Wish) (.ref C_Wish) = some true
  kb_0 : ∃ gg, KBn K fd_Rule_init ["self", "keep", "worn", "alone", "anew", "own", "common", "never", "strict"] 1 ["worn", "keep", "alone", "own", "anew", "never", "common", "strict"] gg (fun vs zs => vs ++ pickKw [.inr 1, .inr 0, .inr 2, .inr 4, .inr 3, .inr 6, .inr 5, .inr 7] (([] : List (Str × V)).map (·.2)) zs)
  kb_1 : ∃ gg, KBn K fd_Wish_init ["self", "atmost", "left", "worn", "anew", "kept", "firm"] 1 ["left", "atmost", "worn", "kept", "anew", "firm"] gg (fun vs zs => vs ++ pickKw [.inr 1, .inr 0, .inr 2, .inr 4, .inr 3, .inr 5] (([] : List (Str × V)).map (·.2)) zs)
  kb_2 : ∃ gg, KBn K fd_Rule_init ["self", "keep", "worn", "alone", "anew", "own", "common", "never", "strict"] 1 ["keep", "worn", "alone", "anew", "own", "common", "never", "strict"] gg (fun vs zs => vs ++ pickKw [.inr 0, .inr 1, .inr 2, .inr 3, .inr 4, .inr 5, .inr 6, .inr 7] (([] : List (Str × V)).map (·.2)) zs)
  kb_3 : ∃ gg, KBn K fd_Wish_init ["self", "atmost", "left", "worn", "anew", "kept", "firm"] 1 ["atmost", "left", "worn", "anew", "kept", "firm"] gg (fun vs zs => vs ++ pickKw [.inr 0, .inr 1, .inr 2, .inr 3, .inr 4, .inr 5] (([] : List (Str × V)).map (·.2)) zs)
  m_bool : mg "bool" = none
  m_int : mg "int" = none
  m_isinstance : mg "isinstance" = none
  m_len : mg "len" = none
  m_list : mg "list" = none
  m_max : mg "max" = none
  m_min : mg "min" = none
  m_range : mg "range" = none
/-! ### rules and wishes: what they bear -/
structure RuleR where
  keep : Int
  worn : Int
  alone : Int
  anew : Bool
  own : Bool
  common : Bool
  never : Bool
  strict : Bool
structure WishR where
  atmost : Option Int
  left : Int
  worn : Int
  anew : Bool
  kept : Bool
  firm : Bool
def fR (r : RuleR) : List (Str × V) := putF "strict" (.bl r.strict) (putF "never" (.bl r.never) (putF "common" (.bl r.common) (putF "own" (.bl r.own) (putF "anew" (.bl r.anew) (putF "alone" (.int r.alone) (putF "worn" (.int r.worn) (putF "keep" (.int r.keep) [])))))))
def fW (r : WishR) : List (Str × V) := putF "firm" (.bl r.firm) (putF "kept" (.bl r.kept) (putF "anew" (.bl r.anew) (putF "worn" (.int r.worn) (putF "left" (.int r.left) (putF "atmost" (oV r.atmost) [])))))
theorem fR_keep (r : RuleR) : (fR r).lookup ("keep" : Str) = some (.int r.keep) := by unfold fR; (repeat (rw [lookup_putF, if_neg (by decide +kernel)])); rw [lookup_putF, if_pos rfl]
theorem fR_worn (r : RuleR) : (fR r).lookup ("worn" : Str) = some (.int r.worn) := by unfold fR; (repeat (rw [lookup_putF, if_neg (by decide +kernel)])); rw [lookup_putF, if_pos rfl]
theorem fR_alone (r : RuleR) : (fR r).lookup ("alone" : Str) = some (.int r.alone) := by unfold fR; (repeat (rw [lookup_putF, if_neg (by decide +kernel)])); rw [lookup_putF, if_pos rfl]
theorem fR_anew (r : RuleR) : (fR r).lookup ("anew" : Str) = some (.bl r.anew) := by unfold fR; (repeat (rw [lookup_putF, if_neg (by decide +kernel)])); rw [lookup_putF, if_pos rfl]
theorem fR_own (r : RuleR) : (fR r).lookup ("own" : Str) = some (.bl r.own) := by unfold fR; (repeat (rw [lookup_putF, if_neg (by decide +kernel)])); rw [lookup_putF, if_pos rfl]
theorem fR_common (r : RuleR) : (fR r).lookup ("common" : Str) = some (.bl r.common) := by unfold fR; (repeat (rw [lookup_putF, if_neg (by decide +kernel)])); rw [lookup_putF, if_pos rfl]
theorem fR_never (r : RuleR) : (fR r).lookup ("never" : Str) = some (.bl r.never) := by unfold fR; (repeat (rw [lookup_putF, if_neg (by decide +kernel)])); rw [lookup_putF, if_pos rfl]
theorem fR_strict (r : RuleR) : (fR r).lookup ("strict" : Str) = some (.bl r.strict) := by unfold fR; rw [lookup_putF, if_pos rfl]
theorem fW_atmost (r : WishR) : (fW r).lookup ("atmost" : Str) = some (oV r.atmost) := by unfold fW; (repeat (rw [lookup_putF, if_neg (by decide +kernel)])); rw [lookup_putF, if_pos rfl]
theorem fW_left (r : WishR) : (fW r).lookup ("left" : Str) = some (.int r.left) := by unfold fW; (repeat (rw [lookup_putF, if_neg (by decide +kernel)])); rw [lookup_putF, if_pos rfl]
theorem fW_worn (r : WishR) : (fW r).lookup ("worn" : Str) = some (.int r.worn) := by unfold fW; (repeat (rw [lookup_putF, if_neg (by decide +kernel)])); rw [lookup_putF, if_pos rfl]
theorem fW_anew (r : WishR) : (fW r).lookup ("anew" : Str) = some (.bl r.anew) := by unfold fW; (repeat (rw [lookup_putF, if_neg (by decide +kernel)])); rw [lookup_putF, if_pos rfl]
theorem fW_kept (r : WishR) : (fW r).lookup ("kept" : Str) = some (.bl r.kept) := by unfold fW; (repeat (rw [lookup_putF, if_neg (by decide +kernel)])); rw [lookup_putF, if_pos rfl]
theorem fW_firm (r : WishR) : (fW r).lookup ("firm" : Str) = some (.bl r.firm) := by unfold fW; rw [lookup_putF, if_pos rfl]
def RuleAt (C : Addr) (H : Hp) (p : Addr) (r : RuleR) : Prop := ∃ dx, H p = some (.ins C dx (fR r))
def WishAt (C : Addr) (H : Hp) (p : Addr) (r : WishR) : Prop := ∃ dx, H p = some (.ins C dx (fW r))
theorem RuleAt.mono {C : Addr} {H H' : Hp} {p : Addr} {r : RuleR} (s : Same H H') : RuleAt C H p r → RuleAt C H' p r := fun ⟨dx, h⟩ => ⟨dx, s _ _ h⟩
theorem WishAt.mono {C : Addr} {H H' : Hp} {p : Addr} {r : WishR} (s : Same H H') : WishAt C H p r → WishAt C H' p r := fun ⟨dx, h⟩ => ⟨dx, s _ _ h⟩
theorem ins_ne {H : Hp} {W p C dx : Addr} {fs : List (Str × V)} (hI : IsW H W) (h : H p = some (.ins C dx fs)) : p ≠ W := by
  obtain ⟨a, b, c, hw⟩ := hI
  rintro rfl
  rw [hw] at h
  cases h
theorem RuleAt.wx {C W : Addr} {H H' : Hp} {p : Addr} {r : RuleR} (hI : IsW H W) (x : Wx W H H') : RuleAt C H p r → RuleAt C H' p r := fun ⟨dx, h⟩ => ⟨dx, x.keep _ _ (ins_ne hI h) h⟩
theorem WishAt.wx {C W : Addr} {H H' : Hp} {p : Addr} {r : WishR} (hI : IsW H W) (x : Wx W H H') : WishAt C H p r → WishAt C H' p r := fun ⟨dx, h⟩ => ⟨dx, x.keep _ _ (ins_ne hI h) h⟩
def spRInit (C : Addr) : Sp := fun vs H Q _ => ∃ (p dx : Addr) (r : RuleR), vs = [.ref p, .int r.keep, .int r.worn, .int r.alone, .bl r.anew, .bl r.own, .bl r.common, .bl r.never, .bl r.strict] ∧ H p = some (.ins C dx []) ∧ Q .non (upd H p (.ins C dx (fR r)))
def spWInit (C : Addr) : Sp := fun vs H Q _ => ∃ (p dx : Addr) (r : WishR), vs = [.ref p, oV r.atmost, .int r.left, .int r.worn, .bl r.anew, .bl r.kept, .bl r.firm] ∧ H p = some (.ins C dx []) ∧ Q .non (upd H p (.ins C dx (fW r)))

section
variable {P : Program} {w : World} {K : PySem.W.Frag} {mg : Str → Option Value} {base : Heap}
theorem ok_law_well (T : Txt K mg) : FnOk P w K mg base CX0 1 T.f_law_well T.fd_law_well ["_law_cell"] spWell := by
  refine T.d_law_well.F.ok sc_law_well (fun vs H Q E h => ?_) (fun cdv A outer s H vs Q E hr h => ?_)
  · obtain ⟨n, rfl, _⟩ := h
    rfl
  · obtain ⟨n, rfl, q⟩ := h
    refine ⟨_, (pss_one (ps_ret (pe_lst (pa_cons (pe_op op_mul (pv 0) (pe_callTy call_int1 (by rfl) T.m_int (by decide +kernel) (pa_cons (pe_cmpR op_ge (pv 0) (pe_op op_pow pe_int pe_int) (nomark _)) pa_nil))) (pa_cons (pe_op op_mod (pv 0) pe_int) (pa_cons pe_int pa_nil)))))), ?_⟩
    refine ⟨.int n, rfl, .int n, rfl, 10, 18, rfl, rfl, ⟨by decide, by decide, by decide⟩, n, _, rfl, rfl, .inr ⟨_, rfl, n, _, rfl, rfl, ?_, .int n, rfl, n, _, rfl, rfl, (show (0 : Int) < 2147483647 by decide), ?_⟩⟩
    · refine .inr ?_
      split <;> decide
    · exact ⟨(by show 3 ≤ sizeLine; decide), fun p hp => q p _ _ _ hp⟩
theorem ok_law_draw (T : Txt K mg) : FnOk P w K mg base CX0 1 T.f_law_draw T.fd_law_draw ["_law_well_here", "_law_many"] spDraw := by
  refine T.d_law_draw.F.ok sc_law_draw (fun vs H Q E h => ?_) (fun cdv A outer s H vs Q E hr h => ?_)
  · obtain ⟨W, m, rfl, _⟩ := h
    rfl
  · obtain ⟨W, m, rfl, m0, m1, hI, q⟩ := h
    obtain ⟨a, b, c, hW⟩ := id hI
    have i0 : atI [V.int a, .int b, .int c] 0 = some (.int a) := rfl
    have i1 : atI [V.int a, .int b, .int c] 1 = some (.int b) := rfl
    have i2 : atI [V.int a, .int b, .int c] 2 = some (.int c) := rfl
    refine ⟨_, (pss_cons (ps_if (pt_cmpR op_gt (pe_ix ix_list (pv 0) pe_int (fun _ _ => rfl)) pe_int (nomark _))
      (pss_cons (ps_set (i := 2) sc_law_draw.nd rfl (.inl rfl) (pe_op op_mod (pe_ix ix_list (pv 0) pe_int (fun _ _ => rfl)) (pv 1)))
      (pss_cons (ps_asg (pe_op op_fdiv (pe_ix ix_list (pv 0) pe_int (fun _ _ => rfl)) (pv 1)) (pg_sub (pv 0) pe_int set_list))
      (pss_one (ps_ret (pv 2)))))
      pss_nil)
      (pss_cons (ps_asg (pe_op op_add (pe_ix ix_list (pv 0) pe_int (fun _ _ => rfl)) pe_int) (pg_sub (pv 0) pe_int set_list))
      (pss_cons (ps_set (i := 3) sc_law_draw.nd rfl (.inl rfl) (pe_op op_mod (pe_op op_mul (pe_op op_add (pe_op op_add (pe_ix ix_list (pv 0) pe_int (fun _ _ => rfl)) (pe_op op_mul pe_int (pe_ix ix_list (pv 0) pe_int (fun _ _ => rfl)))) pe_int) pe_int) pe_int))
      (pss_cons (ps_set (i := 3) sc_law_draw.nd rfl (.inl rfl) (pe_op op_mod (pe_op op_mul (pv 3) (pe_op op_add (pe_op op_fdiv (pv 3) pe_int) pe_int)) pe_int))
      (pss_one (ps_ret (pe_op op_mod (pe_op op_mod (pe_op op_mul (pv 3) (pe_op op_add (pe_op op_fdiv (pv 3) pe_int) pe_int)) pe_int) (pv 1)))))))), ?_⟩
    refine ⟨.ref W, rfl, W, _, 0, _, rfl, rfl, SqL.of hW, i0, a, 0, rfl, rfl, _, rfl, ite2 (fun e => ?_) (fun e => ?_)⟩
    · refine ⟨.ref W, rfl, W, _, 0, _, rfl, rfl, SqL.of hW, i0, .int m, rfl, a, m, rfl, rfl, m0, ?_⟩
      refine ⟨.ref W, rfl, W, _, 0, _, rfl, rfl, SqL.of hW, i0, .int m, rfl, a, m, rfl, rfl, ⟨m0, m1⟩, .ref W, rfl, W, _, 0, 0, rfl, rfl, hW, rfl, ?_⟩
      exact ⟨_, rfl, q _ _ (mod_lt m0).1 (mod_lt m0).2 ((Wx.refl hI).set _ _ _)⟩
    · refine ⟨.ref W, rfl, W, _, 2, _, rfl, rfl, SqL.of hW, i2, c, 1, rfl, rfl, .ref W, rfl, W, _, 2, 2, rfl, rfl, hW, rfl, ?_⟩
      have hW' : (upd H W (W3 a b (c + 1))) W = some (W3 a b (c + 1)) := upd_same
      have j1 : atI [V.int a, .int b, .int (c + 1)] 1 = some (.int b) := rfl
      have j2 : atI [V.int a, .int b, .int (c + 1)] 2 = some (.int (c + 1)) := rfl
      refine ⟨.ref W, rfl, W, _, 1, _, rfl, rfl, SqL.of hW', j1, .ref W, rfl, W, _, 2, _, rfl, rfl, SqL.of hW', j2, 7919, _, rfl, rfl, .inl (by decide), b, _, rfl, rfl, _, 1, rfl, rfl, _, 48271, rfl, rfl, .inr (by decide), _, 2147483647, rfl, rfl, (show (0 : Int) < 2147483647 by decide), ?_⟩
      refine ⟨_, rfl, _, rfl, _, 1009, rfl, rfl, ⟨by decide, by decide⟩, _, 69621, rfl, rfl, _, _, rfl, rfl, cmul_of (mod_lt (by decide)), _, 2147483647, rfl, rfl, (show (0 : Int) < 2147483647 by decide), ?_⟩
      refine ⟨_, rfl, _, rfl, _, 2003, rfl, rfl, ⟨by decide, by decide⟩, _, 40692, rfl, rfl, _, _, rfl, rfl, cmul_of (mod_lt (by decide)), _, 2147483399, rfl, rfl, (show (0 : Int) < 2147483399 by decide), .int m, rfl, _, m, rfl, rfl, m0, ?_⟩
      exact q _ _ (mod_lt m0).1 (mod_lt m0).2 ((Wx.refl hI).set _ _ _)

theorem ok_Rule_init (T : Txt K mg) : FnOk P w K mg base CX0 1 T.f_Rule_init T.fd_Rule_init ["self", "keep", "worn", "alone", "anew", "own", "common", "never", "strict"] (spRInit T.C_Rule) := by
  refine T.d_Rule_init.F.ok sc_Rule_init (fun vs H Q E h => ?_) (fun cdv A outer s H vs Q E hr h => ?_)
  · obtain ⟨p, dx, r, rfl, _⟩ := h
    rfl
  · obtain ⟨p, dx, r, rfl, hp, k⟩ := h
    refine ⟨_, (pss_cons (ps_fld (pv 0) (pv 1) rfl)
      (pss_cons (ps_fld (pv 0) (pv 2) rfl)
      (pss_cons (ps_fld (pv 0) (pv 3) rfl)
      (pss_cons (ps_fld (pv 0) (pv 4) rfl)
      (pss_cons (ps_fld (pv 0) (pv 5) rfl)
      (pss_cons (ps_fld (pv 0) (pv 6) rfl)
      (pss_cons (ps_fld (pv 0) (pv 7) rfl)
      (pss_one (ps_fld (pv 0) (pv 8) rfl))))))))), ?_⟩
    refine ⟨_, rfl, _, rfl, p, _, dx, [], rfl, hp, T.cl_Rule, T.n_Rule_keep, fewL few0 (by decide), ?_⟩
    refine ⟨_, rfl, _, rfl, p, _, dx, _, rfl, upd_same, T.cl_Rule, T.n_Rule_worn, fewL (few few0) (by decide), ?_⟩
    refine ⟨_, rfl, _, rfl, p, _, dx, _, rfl, upd_same, T.cl_Rule, T.n_Rule_alone, fewL (few (few few0)) (by decide), ?_⟩
    refine ⟨_, rfl, _, rfl, p, _, dx, _, rfl, upd_same, T.cl_Rule, T.n_Rule_anew, fewL (few (few (few few0))) (by decide), ?_⟩
    refine ⟨_, rfl, _, rfl, p, _, dx, _, rfl, upd_same, T.cl_Rule, T.n_Rule_own, fewL (few (few (few (few few0)))) (by decide), ?_⟩
    refine ⟨_, rfl, _, rfl, p, _, dx, _, rfl, upd_same, T.cl_Rule, T.n_Rule_common, fewL (few (few (few (few (few few0))))) (by decide), ?_⟩
    refine ⟨_, rfl, _, rfl, p, _, dx, _, rfl, upd_same, T.cl_Rule, T.n_Rule_never, fewL (few (few (few (few (few (few few0)))))) (by decide), ?_⟩
    refine ⟨_, rfl, _, rfl, p, _, dx, _, rfl, upd_same, T.cl_Rule, T.n_Rule_strict, fewL (few (few (few (few (few (few (few few0))))))) (by decide), ?_⟩
    simp only [upd_upd]
    exact k
theorem ok_Wish_init (T : Txt K mg) : FnOk P w K mg base CX0 1 T.f_Wish_init T.fd_Wish_init ["self", "atmost", "left", "worn", "anew", "kept", "firm"] (spWInit T.C_Wish) := by
  refine T.d_Wish_init.F.ok sc_Wish_init (fun vs H Q E h => ?_) (fun cdv A outer s H vs Q E hr h => ?_)
  · obtain ⟨p, dx, r, rfl, _⟩ := h
    rfl
  · obtain ⟨p, dx, r, rfl, hp, k⟩ := h
    refine ⟨_, (pss_cons (ps_fld (pv 0) (pv 1) rfl)
      (pss_cons (ps_fld (pv 0) (pv 2) rfl)
      (pss_cons (ps_fld (pv 0) (pv 3) rfl)
      (pss_cons (ps_fld (pv 0) (pv 4) rfl)
      (pss_cons (ps_fld (pv 0) (pv 5) rfl)
      (pss_one (ps_fld (pv 0) (pv 6) rfl))))))), ?_⟩
    refine ⟨_, rfl, _, rfl, p, _, dx, [], rfl, hp, T.cl_Wish, T.n_Wish_atmost, fewL few0 (by decide), ?_⟩
    refine ⟨_, rfl, _, rfl, p, _, dx, _, rfl, upd_same, T.cl_Wish, T.n_Wish_left, fewL (few few0) (by decide), ?_⟩
    refine ⟨_, rfl, _, rfl, p, _, dx, _, rfl, upd_same, T.cl_Wish, T.n_Wish_worn, fewL (few (few few0)) (by decide), ?_⟩
    refine ⟨_, rfl, _, rfl, p, _, dx, _, rfl, upd_same, T.cl_Wish, T.n_Wish_anew, fewL (few (few (few few0))) (by decide), ?_⟩
    refine ⟨_, rfl, _, rfl, p, _, dx, _, rfl, upd_same, T.cl_Wish, T.n_Wish_kept, fewL (few (few (few (few few0)))) (by decide), ?_⟩
    refine ⟨_, rfl, _, rfl, p, _, dx, _, rfl, upd_same, T.cl_Wish, T.n_Wish_firm, fewL (few (few (few (few (few few0))))) (by decide), ?_⟩
    simp only [upd_upd]
    exact k

def mxI (i j : Int) : Int := if j > i then j else i
def mnI (i j : Int) : Int := if j < i then j else i
def lesO : Option Int → Option Int → Option Int
  | none, b => b
  | some a, none => some a
  | some a, some b => some (mnI a b)
def bothR (r s : RuleR) : RuleR := ⟨mnI r.keep s.keep, mnI r.worn s.worn, mnI r.alone s.alone, r.anew || s.anew, r.own || s.own, r.common && s.common, r.never || s.never, r.strict || s.strict⟩
def bothW (r s : WishR) : WishR := ⟨lesO r.atmost s.atmost, mxI r.left s.left, mnI r.worn s.worn, r.anew || s.anew, r.kept || s.kept, r.firm || s.firm⟩
def spLesser : Sp := fun vs H Q _ => ∃ a b : Option Int, vs = [oV a, oV b] ∧ Q (oV (lesO a b)) H
theorem ok_lesser (T : Txt K mg) : FnOk P w K mg base CX0 1 T.f_lesser T.fd_lesser ["one", "other"] spLesser := by
  refine T.d_lesser.F.ok sc_lesser (fun vs H Q E h => ?_) (fun cdv A outer s H vs Q E hr h => ?_)
  · obtain ⟨a, b, rfl, _⟩ := h
    rfl
  · obtain ⟨a, b, rfl, q⟩ := h
    refine ⟨_, (pss_cons (ps_if (pt_cmpR op_isN (pv 0) pe_non (nomark _))
      (pss_one (ps_ret (pv 1)))
      pss_nil)
      (pss_cons (ps_if (pt_cmpR op_isN (pv 1) pe_non (nomark _))
      (pss_one (ps_ret (pv 0)))
      pss_nil)
      (pss_one (ps_ret (pe_callB (call_min2 rfl) (by rfl) T.m_min (by decide +kernel) (pa_cons (pv 0) (pa_cons (pv 1) pa_nil))))))), ?_⟩
    cases a with
    | none => exact ⟨_, rfl, rfl, true, rfl, _, rfl, q⟩
    | some a =>
      cases b with
      | none => exact ⟨_, rfl, rfl, false, rfl, _, rfl, rfl, true, rfl, _, rfl, q⟩
      | some b => exact ⟨_, rfl, rfl, false, rfl, _, rfl, rfl, false, rfl, _, rfl, _, rfl, _, _, rfl, q⟩
def spBothR (C : Addr) : Sp := fun vs H Q _ => ∃ (p q : Addr) (r s : RuleR), vs = [.ref p, .ref q] ∧ RuleAt C H p r ∧ RuleAt C H q s ∧ ∀ x H', H x = none → Same H H' → RuleAt C H' x (bothR r s) → Q (.ref x) H'
theorem ok_Rule_both (T : Txt K mg) : FnOk P w K mg base CX0 3 T.f_Rule_both T.fd_Rule_both ["self", "other"] (spBothR T.C_Rule) := by
  refine T.d_Rule_both.F.ok sc_Rule_both (fun vs H Q E h => ?_) (fun cdv A outer s H vs Q E hr h => ?_)
  · obtain ⟨p, q, r, s, rfl, _⟩ := h
    rfl
  · obtain ⟨p, q, r, s, rfl, ⟨dx, hp⟩, ⟨dy, hq⟩, k⟩ := h
    refine ⟨_, (pss_one (ps_ret (pe_makeK0 T.mk_Rule (ok_Rule_init T) (hr.mono (by decide)) (by rfl) T.g_Rule T.kb_2.choose_spec pass0 (pk_cons (pe_callB (call_min2 rfl) (by rfl) T.m_min (by decide +kernel) (pa_cons (pe_fld (pv 0) rfl) (pa_cons (pe_fld (pv 1) rfl) pa_nil))) (pk_cons (pe_callB (call_min2 rfl) (by rfl) T.m_min (by decide +kernel) (pa_cons (pe_fld (pv 0) rfl) (pa_cons (pe_fld (pv 1) rfl) pa_nil))) (pk_cons (pe_callB (call_min2 rfl) (by rfl) T.m_min (by decide +kernel) (pa_cons (pe_fld (pv 0) rfl) (pa_cons (pe_fld (pv 1) rfl) pa_nil))) (pk_cons (pe_pure (pe_or (pe_fld (pv 0) rfl) (pe_one (pe_fld (pv 1) rfl)))) (pk_cons (pe_pure (pe_or (pe_fld (pv 0) rfl) (pe_one (pe_fld (pv 1) rfl)))) (pk_cons (pe_pure (pe_and (pe_fld (pv 0) rfl) (pe_one (pe_fld (pv 1) rfl)))) (pk_cons (pe_pure (pe_or (pe_fld (pv 0) rfl) (pe_one (pe_fld (pv 1) rfl)))) (pk_cons (pe_pure (pe_or (pe_fld (pv 0) rfl) (pe_one (pe_fld (pv 1) rfl)))) pk_nil))))))))))), ?_⟩
    refine ⟨_, rfl, p, _, dx, _, _, rfl, hp, T.cl_Rule, T.n_Rule_keep, fR_keep r, _, rfl, q, _, dy, _, _, rfl, hq, T.cl_Rule, T.n_Rule_keep, fR_keep s, _, _, rfl, _, rfl, p, _, dx, _, _, rfl, hp, T.cl_Rule, T.n_Rule_worn, fR_worn r, _, rfl, q, _, dy, _, _, rfl, hq, T.cl_Rule, T.n_Rule_worn, fR_worn s, _, _, rfl, _, rfl, p, _, dx, _, _, rfl, hp, T.cl_Rule, T.n_Rule_alone, fR_alone r, _, rfl, q, _, dy, _, _, rfl, hq, T.cl_Rule, T.n_Rule_alone, fR_alone s, _, _, rfl, .bl (r.anew || s.anew), ⟨_, rfl, p, _, dx, _, _, rfl, hp, T.cl_Rule, T.n_Rule_anew, fR_anew r, _, rfl, ite2 (fun e => by rw [e]; exact ⟨rfl, rfl⟩) (fun e => ⟨_, rfl, q, _, dy, _, _, rfl, hq, T.cl_Rule, T.n_Rule_anew, fR_anew s, by rw [show r.anew = false by simpa using e]; rfl, rfl⟩)⟩, .bl (r.own || s.own), ⟨_, rfl, p, _, dx, _, _, rfl, hp, T.cl_Rule, T.n_Rule_own, fR_own r, _, rfl, ite2 (fun e => by rw [e]; exact ⟨rfl, rfl⟩) (fun e => ⟨_, rfl, q, _, dy, _, _, rfl, hq, T.cl_Rule, T.n_Rule_own, fR_own s, by rw [show r.own = false by simpa using e]; rfl, rfl⟩)⟩, .bl (r.common && s.common), ⟨_, rfl, p, _, dx, _, _, rfl, hp, T.cl_Rule, T.n_Rule_common, fR_common r, _, rfl, ite2 (fun e => ⟨_, rfl, q, _, dy, _, _, rfl, hq, T.cl_Rule, T.n_Rule_common, fR_common s, by rw [e]; rfl, rfl⟩) (fun e => by rw [show r.common = false by simpa using e]; exact ⟨rfl, rfl⟩)⟩, .bl (r.never || s.never), ⟨_, rfl, p, _, dx, _, _, rfl, hp, T.cl_Rule, T.n_Rule_never, fR_never r, _, rfl, ite2 (fun e => by rw [e]; exact ⟨rfl, rfl⟩) (fun e => ⟨_, rfl, q, _, dy, _, _, rfl, hq, T.cl_Rule, T.n_Rule_never, fR_never s, by rw [show r.never = false by simpa using e]; rfl, rfl⟩)⟩, .bl (r.strict || s.strict), ⟨_, rfl, p, _, dx, _, _, rfl, hp, T.cl_Rule, T.n_Rule_strict, fR_strict r, _, rfl, ite2 (fun e => by rw [e]; exact ⟨rfl, rfl⟩) (fun e => ⟨_, rfl, q, _, dy, _, _, rfl, hq, T.cl_Rule, T.n_Rule_strict, fR_strict s, by rw [show r.strict = false by simpa using e]; rfl, rfl⟩)⟩, rfl, rfl, fun x d nx nd ndx => ⟨x, d, bothR r s, rfl, upd_same, rfl, ?_⟩⟩
    rw [upd_upd]
    exact k x _ nx ((same_upd nd).trans (same_upd (by rw [upd_ne ndx.symm]; exact nx))) ⟨d, upd_same⟩
def spBothW (C : Addr) : Sp := fun vs H Q _ => ∃ (p q : Addr) (r s : WishR), vs = [.ref p, .ref q] ∧ WishAt C H p r ∧ WishAt C H q s ∧ ∀ x H', H x = none → Same H H' → WishAt C H' x (bothW r s) → Q (.ref x) H'
theorem ok_Wish_both (T : Txt K mg) : FnOk P w K mg base CX0 3 T.f_Wish_both T.fd_Wish_both ["self", "other"] (spBothW T.C_Wish) := by
  refine T.d_Wish_both.F.ok sc_Wish_both (fun vs H Q E h => ?_) (fun cdv A outer s H vs Q E hr h => ?_)
  · obtain ⟨p, q, r, s, rfl, _⟩ := h
    rfl
  · obtain ⟨p, q, r, s, rfl, ⟨dx, hp⟩, ⟨dy, hq⟩, k⟩ := h
    refine ⟨_, (pss_one (ps_ret (pe_makeK0 T.mk_Wish (ok_Wish_init T) (hr.mono (by decide)) (by rfl) T.g_Wish T.kb_3.choose_spec pass0 (pk_cons (pe_call (ok_lesser T) (hr.mono (by decide)) (by rfl) T.d_lesser.g T.d_lesser.F.kp T.d_lesser.b .nil pass0 (pa_cons (pe_fld (pv 0) rfl) (pa_cons (pe_fld (pv 1) rfl) pa_nil))) (pk_cons (pe_callB (call_max2 rfl) (by rfl) T.m_max (by decide +kernel) (pa_cons (pe_fld (pv 0) rfl) (pa_cons (pe_fld (pv 1) rfl) pa_nil))) (pk_cons (pe_callB (call_min2 rfl) (by rfl) T.m_min (by decide +kernel) (pa_cons (pe_fld (pv 0) rfl) (pa_cons (pe_fld (pv 1) rfl) pa_nil))) (pk_cons (pe_pure (pe_or (pe_fld (pv 0) rfl) (pe_one (pe_fld (pv 1) rfl)))) (pk_cons (pe_pure (pe_or (pe_fld (pv 0) rfl) (pe_one (pe_fld (pv 1) rfl)))) (pk_cons (pe_pure (pe_or (pe_fld (pv 0) rfl) (pe_one (pe_fld (pv 1) rfl)))) pk_nil))))))))), ?_⟩
    refine ⟨_, rfl, p, _, dx, _, _, rfl, hp, T.cl_Wish, T.n_Wish_atmost, fW_atmost r, _, rfl, q, _, dy, _, _, rfl, hq, T.cl_Wish, T.n_Wish_atmost, fW_atmost s, r.atmost, s.atmost, rfl, _, rfl, p, _, dx, _, _, rfl, hp, T.cl_Wish, T.n_Wish_left, fW_left r, _, rfl, q, _, dy, _, _, rfl, hq, T.cl_Wish, T.n_Wish_left, fW_left s, _, _, rfl, _, rfl, p, _, dx, _, _, rfl, hp, T.cl_Wish, T.n_Wish_worn, fW_worn r, _, rfl, q, _, dy, _, _, rfl, hq, T.cl_Wish, T.n_Wish_worn, fW_worn s, _, _, rfl, .bl (r.anew || s.anew), ⟨_, rfl, p, _, dx, _, _, rfl, hp, T.cl_Wish, T.n_Wish_anew, fW_anew r, _, rfl, ite2 (fun e => by rw [e]; exact ⟨rfl, rfl⟩) (fun e => ⟨_, rfl, q, _, dy, _, _, rfl, hq, T.cl_Wish, T.n_Wish_anew, fW_anew s, by rw [show r.anew = false by simpa using e]; rfl, rfl⟩)⟩, .bl (r.kept || s.kept), ⟨_, rfl, p, _, dx, _, _, rfl, hp, T.cl_Wish, T.n_Wish_kept, fW_kept r, _, rfl, ite2 (fun e => by rw [e]; exact ⟨rfl, rfl⟩) (fun e => ⟨_, rfl, q, _, dy, _, _, rfl, hq, T.cl_Wish, T.n_Wish_kept, fW_kept s, by rw [show r.kept = false by simpa using e]; rfl, rfl⟩)⟩, .bl (r.firm || s.firm), ⟨_, rfl, p, _, dx, _, _, rfl, hp, T.cl_Wish, T.n_Wish_firm, fW_firm r, _, rfl, ite2 (fun e => by rw [e]; exact ⟨rfl, rfl⟩) (fun e => ⟨_, rfl, q, _, dy, _, _, rfl, hq, T.cl_Wish, T.n_Wish_firm, fW_firm s, by rw [show r.firm = false by simpa using e]; rfl, rfl⟩)⟩, rfl, rfl, fun x d nx nd ndx => ⟨x, d, bothW r s, rfl, upd_same, rfl, ?_⟩⟩
    rw [upd_upd]
    exact k x _ nx ((same_upd nd).trans (same_upd (by rw [upd_ne ndx.symm]; exact nx))) ⟨d, upd_same⟩

end
end My
namespace My
open PySem PySem.Spec PyProof.Rows L2 TL
def vR (r : RuleR) : List V := [.int r.keep, .int r.worn, .int r.alone, .bl r.anew, .bl r.own, .bl r.common, .bl r.never, .bl r.strict]
def vW (w : WishR) : List V := [oV w.atmost, .int w.left, .int w.worn, .bl w.anew, .bl w.kept, .bl w.firm]
/-! ### rows as data -/
def vd : V → PyData
  | .int n => .int n
  | .bl b => .bool b
  | _ => .none
def okv (v : V) : Prop := v = .non ∨ (∃ b, v = .bl b) ∨ ∃ n, v = .int n
theorem dp_v {K : PySem.W.Frag} {H : Hp} {v : V} (h : okv v) : Dp K H v (vd v) := by
  rcases h with rfl | ⟨b, rfl⟩ | ⟨n, rfl⟩
  · exact .non
  · exact .bl b
  · exact .int n
theorem dp_vs {K : PySem.W.Frag} {H : Hp} : ∀ {L : List V}, (∀ v ∈ L, okv v) → DpAll K H L (L.map vd)
  | [], _ => .nil
  | v :: r, h => .cons (dp_v (h v (List.mem_cons_self ..))) (dp_vs fun u hu => h u (List.mem_cons_of_mem _ hu))
theorem vd_lay (v : V) : PyData.canLay0 (vd v) = true := by cases v <;> simp [vd, PyData.canLay0]
theorem vd_depth (v : V) : PyData.depth (vd v) = 0 := by cases v <;> simp [vd, PyData.depth]
theorem vds_lay : ∀ L : List V, PyData.canLayAll0 (L.map vd) = true
  | [] => rfl
  | v :: r => by simp [PyData.canLayAll0, vd_lay, vds_lay r]
theorem vds_depth : ∀ L : List V, PyData.depthAll (L.map vd) = 0
  | [] => rfl
  | v :: r => by simp [PyData.depthAll, vd_depth, vds_depth r]
theorem shaped_vs (L : List V) : SeqAt.shaped (.list (L.map vd)) = true := by simp [SeqAt.shaped, PyData.canLay0, PyData.depth, vds_lay, vds_depth]
def rowD (L : List V) : PyData := .list (L.map vd)
theorem rows_lay : ∀ Ls : List (List V), PyData.canLayAll0 (Ls.map rowD) = true
  | [] => rfl
  | v :: r => by simp [PyData.canLayAll0, PyData.canLay0, rowD, vds_lay, rows_lay r]
theorem rows_depth : ∀ Ls : List (List V), PyData.depthAll (Ls.map rowD) ≤ 1
  | [] => Nat.zero_le _
  | v :: r => by
    have := rows_depth r
    simp only [List.map_cons, PyData.depthAll, rowD, PyData.depth, vds_depth]
    show max _ _ ≤ 1
    omega
theorem shaped_rows (Ls : List (List V)) : SeqAt.shaped (.list (Ls.map rowD)) = true := by
  have := rows_depth Ls
  simp only [SeqAt.shaped, PyData.canLay0, PyData.depth, rows_lay Ls, Bool.true_and]
  exact decide_eq_true (by omega)
theorem ok_vR (r : RuleR) : ∀ v ∈ vR r, okv v := fun v hv => by
  simp only [vR, List.mem_cons, List.not_mem_nil, or_false] at hv
  rcases hv with rfl | rfl | rfl | rfl | rfl | rfl | rfl | rfl
  · exact .inr (.inr ⟨_, rfl⟩)
  · exact .inr (.inr ⟨_, rfl⟩)
  · exact .inr (.inr ⟨_, rfl⟩)
  · exact .inr (.inl ⟨_, rfl⟩)
  · exact .inr (.inl ⟨_, rfl⟩)
  · exact .inr (.inl ⟨_, rfl⟩)
  · exact .inr (.inl ⟨_, rfl⟩)
  · exact .inr (.inl ⟨_, rfl⟩)
theorem ok_vW (r : WishR) : ∀ v ∈ vW r, okv v := fun v hv => by
  simp only [vW, List.mem_cons, List.not_mem_nil, or_false] at hv
  rcases hv with rfl | rfl | rfl | rfl | rfl | rfl
  · cases r.atmost with
    | none => exact .inl rfl
    | some n => exact .inr (.inr ⟨n, rfl⟩)
  · exact .inr (.inr ⟨_, rfl⟩)
  · exact .inr (.inr ⟨_, rfl⟩)
  · exact .inr (.inl ⟨_, rfl⟩)
  · exact .inr (.inl ⟨_, rfl⟩)
  · exact .inr (.inl ⟨_, rfl⟩)
/-- a list of rows -/
def RowAt (H : Hp) (v : V) (L : List V) : Prop := ∃ f, v = .ref f ∧ H f = some (.lst L)
theorem dp_rows {K : PySem.W.Frag} {H : Hp} : ∀ {xs : List V} {Ls : List (List V)}, Paired (RowAt H) xs Ls → (∀ L ∈ Ls, ∀ v ∈ L, okv v) → DpAll K H xs (Ls.map rowD)
  | _, _, .nil, _ => .nil
  | _, _, .cons ⟨f, e, h⟩ t, k => by
    subst e
    exact .cons (.lst (SqL.of h) (dp_vs (k _ (List.mem_cons_self ..)))) (dp_rows t fun L hL => k L (List.mem_cons_of_mem _ hL))
theorem eqv_rows_nil (Ls : List (List V)) : PyData.eqv (.list (Ls.map rowD)) (.list []) = Ls.isEmpty := by
  cases Ls <;> simp [PyData.eqv, PyData.eqvAll]
section
variable {P : Program} {w : World} {K : PySem.W.Frag} {mg : Str → Option Value} {base : Heap}
def spNum : Sp := fun vs H Q _ => ∃ (W : Addr) (near : Int), vs = [.ref W, .int near] ∧ IsW H W ∧ ∀ n H', Wx W H H' → Q (.int n) H'
theorem ok_law_number (T : Txt K mg) : FnOk P w K mg base CX0 2 T.f_law_number T.fd_law_number ["_law_well_here", "_law_near"] spNum := by
  refine T.d_law_number.F.ok sc_law_number (fun vs H Q E h => ?_) (fun cdv A outer s H vs Q E hr h => ?_)
  · obtain ⟨W, near, rfl, _⟩ := h
    rfl
  · obtain ⟨W, near, rfl, hI, q⟩ := h
    refine ⟨_, (pss_cons (ps_set (i := 2) sc_law_number.nd rfl (.inl rfl) (pe_call (ok_law_draw T) (hr.mono (by decide)) (by rfl) T.d_law_draw.g T.d_law_draw.F.kp T.d_law_draw.b .nil pass0 (pa_cons (pv 0) (pa_cons pe_int pa_nil))))
      (pss_cons (ps_set (i := 3) sc_law_number.nd rfl (.inl rfl) pe_int)
      (Evl.pss_cut (ps_if (pt_cmpR op_eq (pv 2) pe_int (nomark _))
      (pss_one (ps_for PassesOwn.never rfl (pi_range1 (by rfl) T.m_range (pa_cons pe_int pa_nil)) (pg_name (i := 4) sc_law_number.nd rfl (.inl rfl))
      (pss_one (ps_set (i := 3) sc_law_number.nd rfl (.inl rfl) (pe_op op_add (pe_op op_mul (pv 3) (pe_op op_pow pe_int pe_int)) (pe_call (ok_law_draw T) (hr.mono (by decide)) (by rfl) T.d_law_draw.g T.d_law_draw.F.kp T.d_law_draw.b .nil pass0 (pa_cons (pv 0) (pa_cons (pe_op op_pow pe_int pe_int) pa_nil))))))))
      pss_nil)
      (pss_cons (ps_set (i := 5) sc_law_number.nd rfl (.inl rfl) (pe_call (ok_law_draw T) (hr.mono (by decide)) (by rfl) T.d_law_draw.g T.d_law_draw.F.kp T.d_law_draw.b .nil pass0 (pa_cons (pv 0) (pa_cons pe_int pa_nil))))
      (pss_one (ps_ret (pe_ix ix_list (pe_lst (pa_cons (pe_op op_sub (pe_op op_pow pe_int pe_int) pe_int) (pa_cons (pv 3) (pa_cons pe_int (pa_cons (pv 1) (pa_cons (pe_callB (call_max2 rfl) (by rfl) T.m_max (by decide +kernel) (pa_cons pe_int (pa_cons (pe_op op_sub (pv 1) pe_int) pa_nil))) (pa_cons (pv 5) (pa_cons (pv 5) pa_nil)))))))) (pv 2) (fun _ _ => rfl)))))))), ?_⟩
    refine ⟨.ref W, rfl, W, 7, rfl, by decide, by decide, hI, fun lot H1 l0 l1 x1 => ?_⟩
    refine ⟨fun σ H' => ∃ (g : Int) (y : Option V), Wx W H H' ∧ σ = [some (.ref W), some (.int near), some (.int lot), some (.int g), y, none], ?_, ?_⟩
    · refine ⟨_, rfl, rfl, _, rfl, ite2 (fun e => ?_) (fun e => ?_)⟩
      · refine ⟨7, rfl, by decide, by decide, for_range (lo := 0) (n := 7) (fun i σ H' => ∃ (n : Int) (y : Option V), Wx W H H' ∧ σ = [some (.ref W), some (.int near), some (.int lot), some (.int n), y, none]) ⟨0, none, x1, rfl⟩ ?_ ?_⟩
        · rintro i σ H2 hi ⟨n, y, x2, rfl⟩
          exact ⟨.int n, rfl, 10, 8, rfl, rfl, ⟨by decide, by decide, by decide⟩, n, _, rfl, rfl, .inr ⟨by decide, by decide⟩, .ref W, rfl, 10, 8, rfl, rfl, ⟨by decide, by decide, by decide⟩, W, _, rfl, by decide, by decide, x2.well, fun r H3 r0 r1 x3 => ⟨_, r, rfl, rfl, _, _, x2.trans x3, rfl⟩⟩
        · rintro σ H2 ⟨n, y, x2, rfl⟩
          exact ⟨n, y, x2, rfl⟩
      · exact ⟨0, none, x1, rfl⟩
    rintro σ H2 ⟨g, y, x2, rfl⟩
    refine ⟨.ref W, rfl, W, 50, rfl, by decide, by decide, x2.well, fun sm H3 s0 s1 x3 => ?_⟩
    refine ⟨10, 60, rfl, rfl, ⟨by decide, by decide, by decide⟩, _, _, rfl, rfl, _, rfl, _, rfl, _, rfl, _, _, rfl, rfl, _, _, rfl, _, rfl, _, rfl, (by show 7 ≤ sizeLine; decide), fun p hp => ?_⟩
    obtain ⟨n, hn', en⟩ := ints_at (ns := [10 ^ (60 : Int).toNat - 1, g, 0, near, mxI 0 (near - 1), sm, sm]) (r := lot) l0 (by show lot < 7; omega)
    exact ⟨_, rfl, p, _, _, _, rfl, rfl, SqL.of upd_same, en, q n _ ((x2.trans x3).new hp)⟩
def spTruth : Sp := fun vs H Q _ => ∃ (W : Addr), vs = [.ref W] ∧ IsW H W ∧ ∀ b H', Wx W H H' → Q (.bl b) H'
theorem ok_law_truth (T : Txt K mg) : FnOk P w K mg base CX0 2 T.f_law_truth T.fd_law_truth ["_law_well_here"] spTruth := by
  refine T.d_law_truth.F.ok sc_law_truth (fun vs H Q E h => ?_) (fun cdv A outer s H vs Q E hr h => ?_)
  · obtain ⟨W, rfl, _⟩ := h
    rfl
  · obtain ⟨W, rfl, hI, q⟩ := h
    refine ⟨_, (pss_one (ps_ret (pe_cmpR op_eq (pe_call (ok_law_draw T) (hr.mono (by decide)) (by rfl) T.d_law_draw.g T.d_law_draw.F.kp T.d_law_draw.b .nil pass0 (pa_cons (pv 0) (pa_cons pe_int pa_nil))) pe_int (nomark _)))), ?_⟩
    exact ⟨.ref W, rfl, W, 3, rfl, by decide, by decide, hI, fun r H1 _ _ x1 => ⟨rfl, q _ H1 x1⟩⟩
def numOr (v : V) : Prop := v = .non ∨ ∃ n, v = .int n
def spRow : Sp := fun vs H Q _ => ∃ (W a : Addr) (t : Int) (xs : List V) (Ls : List (List V)), vs = [.ref W, .int 3, .int t, .ref a] ∧ 0 ≤ t ∧ t ≤ 5 ∧ IsW H W ∧ a ≠ W ∧ H a = some (.lst xs) ∧ Paired (RowAt H) xs Ls ∧ (∀ v ∈ xs, v ≠ .ref W) ∧ (∀ L ∈ Ls, (∀ v ∈ L, okv v) ∧ ∃ u0 u1 u2 r, L = u0 :: u1 :: u2 :: r ∧ numOr u0 ∧ numOr u1 ∧ numOr u2) ∧
  ∀ p (n0 n1 n2 : Int) (bs : List Bool) H', H p = none → Wx W H H' → H' p = some (.lst ([.int n0, .int n1, .int n2] ++ bs.map V.bl)) → (bs.length : Int) = t → Q (.ref p) H'
theorem rows_wx {W : Addr} {H H' : Hp} (x : Wx W H H') : ∀ {xs : List V} {Ls : List (List V)}, Paired (RowAt H) xs Ls → (∀ v ∈ xs, v ≠ .ref W) → Paired (RowAt H') xs Ls
  | _, _, .nil, _ => .nil
  | _, _, .cons ⟨f, e, h⟩ t, k => by
    subst e
    exact .cons ⟨f, rfl, x.keep _ _ (fun z => k _ (List.mem_cons_self ..) (by rw [z])) h⟩ (rows_wx x t fun v hv => k v (List.mem_cons_of_mem _ hv))
theorem rows_same {H H' : Hp} (s : Same H H') {xs : List V} {Ls : List (List V)} (h : Paired (RowAt H) xs Ls) : Paired (RowAt H') xs Ls := Paired.mono (fun _ _ ⟨f, e, h⟩ => ⟨f, e, s _ _ h⟩) h
theorem ok_law_row (T : Txt K mg) : FnOk P w K mg base CX0 3 T.f_law_row T.fd_law_row ["_law_well_here", "_law_many", "_law_truths", "_law_ahead"] spRow := by
  refine T.d_law_row.F.ok sc_law_row (fun vs H Q E h => ?_) (fun cdv A outer s H vs Q E hr h => ?_)
  · obtain ⟨W, a, t, xs, Ls, rfl, _⟩ := h
    rfl
  · obtain ⟨W, a, t, xs, Ls, rfl, t0, t5, hI, nWa, ha, hx, nx, hL, q⟩ := h
    refine ⟨_, (pss_cons (ps_set (i := 4) sc_law_row.nd rfl (.inl rfl) (pe_lst pa_nil))
      (pss_cons (ps_for PassesOwn.never rfl (pi_range1 (by rfl) T.m_range (pa_cons (pv 1) pa_nil)) (pg_name (i := 5) sc_law_row.nd rfl (.inl rfl))
      (pss_cons (ps_set (i := 6) sc_law_row.nd rfl (.inl rfl) pe_int)
      (Evl.pss_cut (ps_if (pt_mid (PW.pt (pw_and (pt_cmpR (op_neD hr.units) (pv 3) (pe_lst pa_nil) (nomark _)) (pw_and1 (pt_cmpR op_notN (pe_ix ix_list (pe_ix ix_list (pv 3) pe_int (fun _ _ => rfl)) (pv 5) (fun _ _ => rfl)) pe_non (nomark _))))))
      (pss_one (ps_set (i := 6) sc_law_row.nd rfl (.inl rfl) (pe_ix ix_list (pe_ix ix_list (pv 3) pe_int (fun _ _ => rfl)) (pv 5) (fun _ _ => rfl))))
      pss_nil)
      (pss_one (ps_expr (pe_bm PySem.F.plainAttrs_list PySem.F.slot_list_append PySem.F.type_list_append mt_append (pv 4) (pa_cons (pe_call (ok_law_number T) (hr.mono (by decide)) (by rfl) T.d_law_number.g T.d_law_number.F.kp T.d_law_number.b .nil pass0 (pa_cons (pv 0) (pa_cons (pv 6) pa_nil))) pa_nil)))))))
      (pss_one (ps_ret (pe_op op_cat (pv 4) (pe_lc (own := [("_law_k", 5)]) (g := gName 5) (tt := tYes) (by rfl) sc_law_row.nd (pi_range1 (by rfl) T.m_range (pa_cons (pv 2) pa_nil)) (blkOk_by (own := [("_law_k", 5)]) (N := ["_law_well_here", "_law_many", "_law_truths", "_law_ahead", "_law_found", "_law_k", "_law_near"]) (sc := defScope s_law_row) (by decide +kernel)) (fun _ _ _ _ _ => (pg_name (i := 5) sc_law_row.nd rfl (Or.inl rfl))) (fun _ _ _ _ _ => pts_nil) (fun _ _ _ _ _ => (pe_call (ok_law_truth T) (hr.mono (by decide)) (by rfl) T.d_law_truth.g T.d_law_truth.F.kp T.d_law_truth.b .nil pass0 (pa_cons (pv 0) pa_nil))))))))), ?_⟩
    refine ⟨Nat.zero_le _, fun L hL0 => ?_⟩
    have nWL : W ≠ L := hI.ne hL0
    have naL : a ≠ L := ne_of_none ha hL0
    refine ⟨_, rfl, 3, rfl, by decide, by decide, for_range (lo := 0) (n := 3) (fun i σ H' => ∃ (ns : List Int) (y5 y6 : Option V), ns.length = i ∧ Wx W H H' ∧ H' L = some (.lst (ns.map V.int)) ∧ σ = [some (.ref W), some (.int 3), some (.int t), some (.ref a), some (.ref L), y5, y6])
      ⟨[], none, none, rfl, (Wx.refl hI).new hL0, upd_same, rfl⟩ ?_ ?_⟩
    · rintro i σ H1 hi ⟨ns, y5, y6, ln, x1, eL, rfl⟩
      refine ⟨fun σ H' => ∃ near : Int, Same H1 H' ∧ σ = [some (.ref W), some (.int 3), some (.int t), some (.ref a), some (.ref L), some (.int (0 + (i : Int))), some (.int near)], ?_, ?_⟩
      · have ha1 := x1.keep _ _ nWa ha
        have hx1 := rows_wx x1 hx nx
        cases Ls with
        | nil =>
          cases hx
          refine ⟨fun b H' => b = false ∧ Same H1 H', ?_, fun b H' hb => ?_⟩
          · refine ⟨.ref a, rfl, Nat.zero_le _, fun e he => ?_⟩
            have s2 := same_upd (o := .lst []) he
            exact ⟨.list [], .list [], .lst (SqL.of (s2 _ _ ha1)) .nil, .lst (SqL.of upd_same) .nil, by decide, by decide, _, rfl, rfl, s2⟩
          · obtain ⟨rfl, s2⟩ := hb
            exact ⟨7, s2, rfl⟩
        | cons L0 Lr =>
          obtain ⟨okL, u0, u1, u2, rr, rfl, k0', k1', k2'⟩ := hL L0 (List.mem_cons_self ..)
          obtain ⟨f, xr, rfl, hf⟩ : ∃ f xr, xs = .ref f :: xr ∧ H1 f = some (.lst (u0 :: u1 :: u2 :: rr)) := by
            cases hx1 with
            | cons h t =>
              obtain ⟨f, rfl, h⟩ := h
              exact ⟨f, _, rfl, h⟩
          have a0 : atI (V.ref f :: xr) 0 = some (.ref f) := atI_nat (j := 0) rfl
          obtain ⟨u, hu, eu⟩ : ∃ u, numOr u ∧ atI (u0 :: u1 :: u2 :: rr) (0 + (i : Int)) = some u := by
            rw [Int.zero_add]
            have : i = 0 ∨ i = 1 ∨ i = 2 := by omega
            rcases this with rfl | rfl | rfl
            · exact ⟨u0, k0', atI_nat (j := 0) rfl⟩
            · exact ⟨u1, k1', atI_nat (j := 1) rfl⟩
            · exact ⟨u2, k2', atI_nat (j := 2) rfl⟩
          refine ⟨fun b H' => b = !decide (u = .non) ∧ Same H1 H', ?_, fun b H' hb => ?_⟩
          · refine ⟨.ref a, rfl, Nat.zero_le _, fun e he => ?_⟩
            have s2 := same_upd (o := .lst []) he
            refine ⟨.list (((u0 :: u1 :: u2 :: rr) :: Lr).map rowD), .list [], .lst (SqL.of (s2 _ _ ha1)) (dp_rows (rows_same s2 hx1) fun L hL' => (hL L hL').1), .lst (SqL.of upd_same) .nil, shaped_rows _, by decide, true, ?_, .ref a, rfl, a, _, 0, _, rfl, rfl, SqL.of (s2 _ _ ha1), a0, _, rfl, f, _, _, _, rfl, rfl, SqL.of (s2 _ _ hf), eu, rfl, _, rfl, rfl, s2⟩
            rw [eqv_rows_nil]
            rfl
          · obtain ⟨rfl, s2⟩ := hb
            rcases hu with rfl | ⟨n, rfl⟩
            · exact ⟨7, s2, rfl⟩
            · exact ⟨.ref a, rfl, a, _, 0, _, rfl, rfl, SqL.of (s2 _ _ ha1), a0, _, rfl, f, _, _, _, rfl, rfl, SqL.of (s2 _ _ hf), eu, n, s2, rfl⟩
      rintro σ H2 ⟨near, s2, rfl⟩
      have x2 := x1.same s2
      have eL2 := s2 _ _ eL
      refine ⟨.ref L, rfl, .inl ⟨rfl, _, SqL.of eL2⟩, .ref W, rfl, _, rfl, W, near, rfl, x2.well, fun n H3 x3 => ?_⟩
      exact ⟨L, _, _, rfl, rfl, x3.keep _ _ nWL.symm eL2, by rw [List.length_map]; exact szlt (by omega), ns ++ [n], _, _, by rw [List.length_append, ln]; rfl, (x2.trans x3).mut hL0 nWL, by rw [upd_same, List.map_append]; rfl, rfl⟩
    · rintro σ H1 ⟨ns, y5, y6, ln, x1, eL, rfl⟩
      obtain ⟨n0, n1, n2, rfl⟩ : ∃ n0 n1 n2, ns = [n0, n1, n2] := match ns, ln with
        | [a, b, c], _ => ⟨a, b, c, rfl⟩
      refine ⟨.ref L, rfl, _, rfl, t, rfl, by omega, by omega, fun D hD => ?_⟩
      have nWD : W ≠ D := x1.well.ne hD
      have hD0 : H D = none := x1.free hD
      have nLD : L ≠ D := ne_of_none eL hD
      refine lc_range (lo := 0) (n := t.toNat) (fun i H' => ∃ bs : List Bool, bs.length = i ∧ Wx W H H' ∧ H' L = some (.lst ([n0, n1, n2].map V.int)) ∧ H' D = some (.lst (bs.map V.bl))) ⟨[], rfl, x1.new hD, by rw [upd_ne nLD]; exact eL, upd_same⟩ ?_ ?_
      · rintro i H' hi ⟨bs, bn, x, e1, e2⟩
        exact ⟨rfl, .ref W, rfl, W, rfl, x.well, fun b H5 x5 => ⟨_, x5.keep D _ nWD.symm e2, by rw [List.length_map]; exact szlt (by omega), bs ++ [b], by rw [List.length_append, bn]; rfl, (x.trans x5).mut hD0 nWD, by rw [upd_ne nLD]; exact x5.keep _ _ nWL.symm e1, by rw [upd_same, List.map_append]; rfl⟩⟩
      rintro H2 ⟨bs, bn, x2, e1, e2⟩
      refine ⟨L, D, _, _, rfl, rfl, e1, e2, by rw [List.length_map, List.length_map]; exact szl (by show 3 + bs.length ≤ _; omega), fun p hp => ?_⟩
      exact q p n0 n1 n2 bs _ (x2.free hp) (x2.new hp) upd_same (by omega)
end
end My
namespace My
open PySem PySem.Spec PyProof.Rows L2 TL
section
variable {P : Program} {w : World} {K : PySem.W.Frag} {mg : Str → Option Value} {base : Heap}
def spRuleF (C D : Addr) : Sp := fun vs H Q _ => ∃ p : Addr, vs = [.ref p] ∧ ((∃ r, RuleAt C H p r ∧ ∀ x, H x = none → Q (.ref x) (upd H x (.lst (vR r)))) ∨ ∃ r, WishAt D H p r ∧ Q .non H)
theorem ok_law_rule_fields (T : Txt K mg) : FnOk P w K mg base CX0 1 T.f_law_rule_fields T.fd_law_rule_fields ["_law_one"] (spRuleF T.C_Rule T.C_Wish) := by
  refine T.d_law_rule_fields.F.ok sc_law_rule_fields (fun vs H Q E h => ?_) (fun cdv A outer s H vs Q E hr h => ?_)
  · obtain ⟨p, rfl, _⟩ := h
    rfl
  · obtain ⟨p, rfl, h⟩ := h
    refine ⟨_, (pss_cons (ps_if (pt_not (pt_val (pe_callB call_isi (by rfl) T.m_isinstance (by decide +kernel) (pa_cons (pv 0) (pa_cons (pe_glob (v := .ref T.C_Rule) (by rfl) T.g_Rule rfl) pa_nil)))))
      (pss_one (ps_ret pe_non))
      pss_nil)
      (pss_one (ps_ret (pe_lst (pa_cons (pe_fld (pv 0) rfl) (pa_cons (pe_fld (pv 0) rfl) (pa_cons (pe_fld (pv 0) rfl) (pa_cons (pe_fld (pv 0) rfl) (pa_cons (pe_fld (pv 0) rfl) (pa_cons (pe_fld (pv 0) rfl) (pa_cons (pe_fld (pv 0) rfl) (pa_cons (pe_fld (pv 0) rfl) pa_nil)))))))))))), ?_⟩
    rcases h with ⟨r, ⟨dx, hp⟩, q⟩ | ⟨r, ⟨dx, hp⟩, q⟩
    · refine ⟨.ref p, rfl, .ref p, .ref T.C_Rule, _, _, true, rfl, .own _, .base (.ins hp T.cl_Rule T.ha_Rule T.hn_cls T.htk_cls T.hm_Rule), T.ki_Rule_Rule, true, rfl, ?_⟩
      refine ⟨_, rfl, p, _, dx, _, _, rfl, hp, T.cl_Rule, T.n_Rule_keep, fR_keep r, _, rfl, p, _, dx, _, _, rfl, hp, T.cl_Rule, T.n_Rule_worn, fR_worn r, _, rfl, p, _, dx, _, _, rfl, hp, T.cl_Rule, T.n_Rule_alone, fR_alone r, _, rfl, p, _, dx, _, _, rfl, hp, T.cl_Rule, T.n_Rule_anew, fR_anew r, _, rfl, p, _, dx, _, _, rfl, hp, T.cl_Rule, T.n_Rule_own, fR_own r, _, rfl, p, _, dx, _, _, rfl, hp, T.cl_Rule, T.n_Rule_common, fR_common r, _, rfl, p, _, dx, _, _, rfl, hp, T.cl_Rule, T.n_Rule_never, fR_never r, _, rfl, p, _, dx, _, _, rfl, hp, T.cl_Rule, T.n_Rule_strict, fR_strict r, (by show 8 ≤ sizeLine; decide), fun x hx => q x hx⟩
    · exact ⟨.ref p, rfl, .ref p, .ref T.C_Rule, _, _, false, rfl, .own _, .base (.ins hp T.cl_Wish T.ha_Wish T.hn_cls T.htk_cls T.hm_Wish), T.ki_Wish_Rule, false, rfl, q⟩
def spWishF (C D : Addr) : Sp := fun vs H Q _ => ∃ p : Addr, vs = [.ref p] ∧ ((∃ r, WishAt C H p r ∧ ∀ x, H x = none → Q (.ref x) (upd H x (.lst (vW r)))) ∨ ∃ r, RuleAt D H p r ∧ Q .non H)
theorem ok_law_wish_fields (T : Txt K mg) : FnOk P w K mg base CX0 1 T.f_law_wish_fields T.fd_law_wish_fields ["_law_one"] (spWishF T.C_Wish T.C_Rule) := by
  refine T.d_law_wish_fields.F.ok sc_law_wish_fields (fun vs H Q E h => ?_) (fun cdv A outer s H vs Q E hr h => ?_)
  · obtain ⟨p, rfl, _⟩ := h
    rfl
  · obtain ⟨p, rfl, h⟩ := h
    refine ⟨_, (pss_cons (ps_if (pt_not (pt_val (pe_callB call_isi (by rfl) T.m_isinstance (by decide +kernel) (pa_cons (pv 0) (pa_cons (pe_glob (v := .ref T.C_Wish) (by rfl) T.g_Wish rfl) pa_nil)))))
      (pss_one (ps_ret pe_non))
      pss_nil)
      (pss_one (ps_ret (pe_lst (pa_cons (pe_fld (pv 0) rfl) (pa_cons (pe_fld (pv 0) rfl) (pa_cons (pe_fld (pv 0) rfl) (pa_cons (pe_fld (pv 0) rfl) (pa_cons (pe_fld (pv 0) rfl) (pa_cons (pe_fld (pv 0) rfl) pa_nil)))))))))), ?_⟩
    rcases h with ⟨r, ⟨dx, hp⟩, q⟩ | ⟨r, ⟨dx, hp⟩, q⟩
    · refine ⟨.ref p, rfl, .ref p, .ref T.C_Wish, _, _, true, rfl, .own _, .base (.ins hp T.cl_Wish T.ha_Wish T.hn_cls T.htk_cls T.hm_Wish), T.ki_Wish_Wish, true, rfl, ?_⟩
      refine ⟨_, rfl, p, _, dx, _, _, rfl, hp, T.cl_Wish, T.n_Wish_atmost, fW_atmost r, _, rfl, p, _, dx, _, _, rfl, hp, T.cl_Wish, T.n_Wish_left, fW_left r, _, rfl, p, _, dx, _, _, rfl, hp, T.cl_Wish, T.n_Wish_worn, fW_worn r, _, rfl, p, _, dx, _, _, rfl, hp, T.cl_Wish, T.n_Wish_anew, fW_anew r, _, rfl, p, _, dx, _, _, rfl, hp, T.cl_Wish, T.n_Wish_kept, fW_kept r, _, rfl, p, _, dx, _, _, rfl, hp, T.cl_Wish, T.n_Wish_firm, fW_firm r, (by show 6 ≤ sizeLine; decide), fun x hx => q x hx⟩
    · exact ⟨.ref p, rfl, .ref p, .ref T.C_Wish, _, _, false, rfl, .own _, .base (.ins hp T.cl_Rule T.ha_Rule T.hn_cls T.htk_cls T.hm_Rule), T.ki_Rule_Wish, false, rfl, q⟩
def spMkRule (C : Addr) : Sp := fun vs H Q _ => ∃ (f : Addr) (r : RuleR), vs = [.ref f] ∧ H f = some (.lst (vR r)) ∧ ∀ x H', H x = none → Same H H' → RuleAt C H' x r → Q (.ref x) H'
theorem ok_law_rule (T : Txt K mg) : FnOk P w K mg base CX0 3 T.f_law_rule T.fd_law_rule ["_law_some"] (spMkRule T.C_Rule) := by
  refine T.d_law_rule.F.ok sc_law_rule (fun vs H Q E h => ?_) (fun cdv A outer s H vs Q E hr h => ?_)
  · obtain ⟨f, r, rfl, _⟩ := h
    rfl
  · obtain ⟨f, r, rfl, hf, q⟩ := h
    refine ⟨_, (pss_cons (ps_asg (pv 0) (pg_lst rfl (pgs_cons (pg_name (i := 1) sc_law_rule.nd rfl (.inl rfl)) (pgs_cons (pg_name (i := 2) sc_law_rule.nd rfl (.inl rfl)) (pgs_cons (pg_name (i := 3) sc_law_rule.nd rfl (.inl rfl)) (pgs_cons (pg_name (i := 4) sc_law_rule.nd rfl (.inl rfl)) (pgs_cons (pg_name (i := 5) sc_law_rule.nd rfl (.inl rfl)) (pgs_cons (pg_name (i := 6) sc_law_rule.nd rfl (.inl rfl)) (pgs_cons (pg_name (i := 7) sc_law_rule.nd rfl (.inl rfl)) (pgs_cons (pg_name (i := 8) sc_law_rule.nd rfl (.inl rfl)) pgs_nil))))))))))
      (pss_one (ps_ret (pe_makeK0 T.mk_Rule (ok_Rule_init T) (hr.mono (by decide)) (by rfl) T.g_Rule T.kb_0.choose_spec pass0 (pk_cons (pv 2) (pk_cons (pv 1) (pk_cons (pv 3) (pk_cons (pv 5) (pk_cons (pv 4) (pk_cons (pv 7) (pk_cons (pv 6) (pk_cons (pv 8) pk_nil)))))))))))), ?_⟩
    refine ⟨.ref f, rfl, f, vR r, rfl, SqL.of hf, rfl, _, _, rfl, _, _, rfl, _, _, rfl, _, _, rfl, _, _, rfl, _, _, rfl, _, _, rfl, _, _, rfl, rfl, ?_⟩
    refine ⟨_, rfl, _, rfl, _, rfl, _, rfl, _, rfl, _, rfl, _, rfl, _, rfl, rfl, rfl, fun p dx np ndx ndp => ⟨p, dx, r, rfl, upd_same, rfl, ?_⟩⟩
    rw [upd_upd]
    exact q p _ np ((same_upd ndx).trans (same_upd (by rw [upd_ne ndp.symm]; exact np))) ⟨dx, upd_same⟩
def spMkWish (C : Addr) : Sp := fun vs H Q _ => ∃ (f : Addr) (r : WishR), vs = [.ref f] ∧ H f = some (.lst (vW r)) ∧ ∀ x H', H x = none → Same H H' → WishAt C H' x r → Q (.ref x) H'
theorem ok_law_wish (T : Txt K mg) : FnOk P w K mg base CX0 3 T.f_law_wish T.fd_law_wish ["_law_some"] (spMkWish T.C_Wish) := by
  refine T.d_law_wish.F.ok sc_law_wish (fun vs H Q E h => ?_) (fun cdv A outer s H vs Q E hr h => ?_)
  · obtain ⟨f, r, rfl, _⟩ := h
    rfl
  · obtain ⟨f, r, rfl, hf, q⟩ := h
    refine ⟨_, (pss_cons (ps_asg (pv 0) (pg_lst rfl (pgs_cons (pg_name (i := 1) sc_law_wish.nd rfl (.inl rfl)) (pgs_cons (pg_name (i := 2) sc_law_wish.nd rfl (.inl rfl)) (pgs_cons (pg_name (i := 3) sc_law_wish.nd rfl (.inl rfl)) (pgs_cons (pg_name (i := 4) sc_law_wish.nd rfl (.inl rfl)) (pgs_cons (pg_name (i := 5) sc_law_wish.nd rfl (.inl rfl)) (pgs_cons (pg_name (i := 6) sc_law_wish.nd rfl (.inl rfl)) pgs_nil))))))))
      (pss_one (ps_ret (pe_makeK0 T.mk_Wish (ok_Wish_init T) (hr.mono (by decide)) (by rfl) T.g_Wish T.kb_1.choose_spec pass0 (pk_cons (pv 2) (pk_cons (pv 1) (pk_cons (pv 3) (pk_cons (pv 5) (pk_cons (pv 4) (pk_cons (pv 6) pk_nil)))))))))), ?_⟩
    refine ⟨.ref f, rfl, f, vW r, rfl, SqL.of hf, rfl, _, _, rfl, _, _, rfl, _, _, rfl, _, _, rfl, _, _, rfl, _, _, rfl, rfl, ?_⟩
    refine ⟨_, rfl, _, rfl, _, rfl, _, rfl, _, rfl, _, rfl, rfl, rfl, fun p dx np ndx ndp => ⟨p, dx, r, rfl, upd_same, rfl, ?_⟩⟩
    rw [upd_upd]
    exact q p _ np ((same_upd ndx).trans (same_upd (by rw [upd_ne ndp.symm]; exact np))) ⟨dx, upd_same⟩
def spLess : Sp := fun vs H Q _ => ∃ a b : Option Int, vs = [oV a, oV b] ∧ Q (oV (lesO a b)) H
theorem ok_law_less (T : Txt K mg) : FnOk P w K mg base CX0 1 T.f_law_less T.fd_law_less ["_law_one", "_law_other"] spLess := by
  refine T.d_law_less.F.ok sc_law_less (fun vs H Q E h => ?_) (fun cdv A outer s H vs Q E hr h => ?_)
  · obtain ⟨a, b, rfl, _⟩ := h
    rfl
  · obtain ⟨a, b, rfl, q⟩ := h
    refine ⟨_, (pss_cons (ps_if (pt_pure (PW.pt (pw_or (pt_cmpR op_isN (pv 0) pe_non (nomark _)) (pw_or1 (pt_pure (PW.pt (pw_and (pt_cmpR op_notN (pv 1) pe_non (nomark _)) (pw_and1 (pt_cmpR op_lt (pv 1) (pv 0) (nomark _))))))))))
      (pss_one (ps_ret (pv 1)))
      pss_nil)
      (pss_one (ps_ret (pv 0)))), ?_⟩
    cases a with
    | none => exact ⟨true, ⟨_, rfl, rfl, true, rfl, rfl, rfl⟩, _, rfl, q⟩
    | some a =>
      cases b with
      | none => exact ⟨false, ⟨_, rfl, rfl, false, rfl, false, ⟨_, rfl, rfl, false, rfl, rfl, rfl⟩, rfl, rfl⟩, _, rfl, q⟩
      | some b =>
        refine ⟨decide (b < a), ⟨_, rfl, rfl, false, rfl, decide (b < a), ⟨_, rfl, rfl, true, rfl, _, rfl, _, rfl, b, a, rfl, rfl, _, rfl, rfl, rfl⟩, rfl, rfl⟩, ?_⟩
        have e : oV (lesO (some a) (some b)) = .int (if b < a then b else a) := rfl
        rw [e] at q
        refine ite2 (fun h => ?_) (fun h => ?_)
        · rw [if_pos (of_decide_eq_true h)] at q
          exact ⟨_, rfl, q⟩
        · rw [if_neg (fun z => h (decide_eq_true z))] at q
          exact ⟨_, rfl, q⟩
def spTrue : Sp := fun vs H Q _ => ∃ (f : Addr) (a b c : V) (bs : List Bool), vs = [.ref f, .int 3] ∧ H f = some (.lst (a :: b :: c :: bs.map V.bl)) ∧ (∀ v ∈ [a, b, c], v = .non ∨ ∃ n, v = .int n) ∧ bs.length ≤ 10 ∧ ∀ H', Same H H' → Q (.bl true) H'
theorem ok_law_true (T : Txt K mg) : FnOk P w K mg base CX0 1 T.f_law_true T.fd_law_true ["_law_fields", "_law_at"] spTrue := by
  refine T.d_law_true.F.ok sc_law_true (fun vs H Q E h => ?_) (fun cdv A outer s H vs Q E hr h => ?_)
  · obtain ⟨f, a, b, c, bs, rfl, _⟩ := h
    rfl
  · obtain ⟨f, a, b, c, bs, rfl, hf, hv, lb, q⟩ := h
    refine ⟨_, (pss_one (ps_ret (pe_cmpR (op_eqD hr.units) (pe_lc (own := [("_law_k", 2)]) (g := gName 2) (tt := tTest (tOp rNe (tCB (rIsi K) (tCons (tOp (rIxL K) (tVar 0) (tVar 2)) (tCons (tC (.ty "bool")) tNil))) (tOp (rI0 fun i j => .bl (decide (j ≤ i))) (tVar 2) (tVar 1)))) (by rfl) sc_law_true.nd (pi_range1 (by rfl) T.m_range (pa_cons (pe_callB call_len_seq (by rfl) T.m_len (by decide +kernel) (pa_cons (pv 0) pa_nil)) pa_nil)) (blkOk_by (own := [("_law_k", 2)]) (N := ["_law_fields", "_law_at", "_law_k"]) (sc := defScope s_law_true) (by decide +kernel)) (fun _ _ _ _ _ => (pg_name (i := 2) sc_law_true.nd rfl (Or.inl rfl))) (fun _ _ _ _ _ => (pts_one (pt_cmpR op_ne (pe_callB call_isi (by rfl) T.m_isinstance (by decide +kernel) (pa_cons (pe_ix ix_list (pv 0) (pv 2) (fun _ _ => rfl)) (pa_cons (pe_bltn (v := .ty "bool") (by rfl) T.m_bool (by decide +kernel) rfl) pa_nil))) (pe_cmpR op_ge (pv 2) (pv 1) (nomark _)) (nomark _)))) (fun _ _ _ _ _ => (pv 2))) (pe_lst pa_nil) (nomark _)))), ?_⟩
    have ll : (a :: b :: c :: bs.map V.bl).length = bs.length + 3 := by simp
    refine ⟨.ref f, rfl, f, _, rfl, .inl (SqL.of hf), _, rfl, by omega, by omega, fun D hD => ?_⟩
    refine lc_range (lo := 0) (n := (((a :: b :: c :: bs.map V.bl).length : Nat) : Int).toNat) (fun i H' => Same H H' ∧ H' D = some (.lst [])) ⟨same_upd hD, upd_same⟩ ?_ ?_
    · rintro i H' hi ⟨s, eD⟩
      have hil : i < bs.length + 3 := by omega
      by_cases i3 : i < 3
      · obtain ⟨v, av, hv'⟩ : ∃ v, atI (a :: b :: c :: bs.map V.bl) (0 + (i : Int)) = some v ∧ (v = .non ∨ ∃ n, v = .int n) := by
          rw [Int.zero_add]
          have : i = 0 ∨ i = 1 ∨ i = 2 := by omega
          rcases this with rfl | rfl | rfl
          · exact ⟨a, atI_nat (j := 0) rfl, hv a (by simp)⟩
          · exact ⟨b, atI_nat (j := 1) rfl, hv b (by simp)⟩
          · exact ⟨c, atI_nat (j := 2) rfl, hv c (by simp)⟩
        have ge : decide ((3 : Int) ≤ 0 + (i : Int)) = false := decide_eq_false (by omega)
        rcases hv' with rfl | ⟨n, rfl⟩
        · refine ⟨rfl, .ref f, rfl, _, rfl, f, _, _, _, rfl, rfl, SqL.of (s _ _ hf), av, .non, .ty "bool", _, _, false, rfl, .ty "bool", .base .non, kit2 (by decide +kernel), _, rfl, _, rfl, _, 3, rfl, rfl, rfl, false, ?_, s, eD⟩
          show (V.bl !decide (V.bl false = V.bl (decide ((3 : Int) ≤ 0 + (i : Int))))) = V.bl false
          rw [ge]
          rfl
        · refine ⟨rfl, .ref f, rfl, _, rfl, f, _, _, _, rfl, rfl, SqL.of (s _ _ hf), av, .int n, .ty "bool", _, _, false, rfl, .ty "bool", .base (.int n), kit2 (by decide +kernel), _, rfl, _, rfl, _, 3, rfl, rfl, rfl, false, ?_, s, eD⟩
          show (V.bl !decide (V.bl false = V.bl (decide ((3 : Int) ≤ 0 + (i : Int))))) = V.bl false
          rw [ge]
          rfl
      · obtain ⟨v, av⟩ : ∃ v : Bool, atI (a :: b :: c :: bs.map V.bl) (0 + (i : Int)) = some (.bl v) := by
          rw [Int.zero_add]
          obtain ⟨j, rfl⟩ : ∃ j, i = j + 3 := ⟨i - 3, by omega⟩
          refine ⟨bs[j]'(by omega), atI_nat ?_⟩
          show (bs.map V.bl)[j]? = _
          rw [List.getElem?_map, List.getElem?_eq_getElem (by omega)]
          rfl
        have ge : decide ((3 : Int) ≤ 0 + (i : Int)) = true := decide_eq_true (by omega)
        refine ⟨rfl, .ref f, rfl, _, rfl, f, _, _, _, rfl, rfl, SqL.of (s _ _ hf), av, .bl v, .ty "bool", _, _, true, rfl, .ty "bool", .base (.bl v), kit2 (by decide +kernel), _, rfl, _, rfl, _, 3, rfl, rfl, rfl, false, ?_, s, eD⟩
        show (V.bl !decide (V.bl true = V.bl (decide ((3 : Int) ≤ 0 + (i : Int))))) = V.bl false
        rw [ge]
        rfl
    · rintro H' ⟨s, eD⟩
      refine ⟨Nat.zero_le _, fun e he => ?_⟩
      have s2 := same_upd (o := .lst []) he
      exact ⟨.list [], .list [], .lst (SqL.of (s2 _ _ eD)) .nil, .lst (SqL.of upd_same) .nil, by decide, by decide, q _ (s.trans s2)⟩
end
end My
namespace My
open PySem PySem.Spec PyProof.Rows L2 TL
section
variable {P : Program} {w : World} {K : PySem.W.Frag} {mg : Str → Option Value} {base : Heap}
theorem lt3 {i : Nat} (h : i < 3) : i = 0 ∨ i = 1 ∨ i = 2 := by omega
theorem lt5 {i : Nat} (h : i < 5) : i = 0 ∨ i = 1 ∨ i = 2 ∨ i = 3 ∨ i = 4 := by omega
def spRB : Sp := fun vs H Q _ => ∃ (a b : Addr) (r s : RuleR), vs = [.ref a, .ref b] ∧ H a = some (.lst (vR r)) ∧ H b = some (.lst (vR s)) ∧ ∀ p H', H p = none → Same H H' → H' p = some (.lst (vR (bothR r s))) → Q (.ref p) H'
theorem ok_law_rule_both (T : Txt K mg) : FnOk P w K mg base CX0 1 T.f_law_rule_both T.fd_law_rule_both ["_law_one", "_law_other"] spRB := by
  refine T.d_law_rule_both.F.ok sc_law_rule_both (fun vs H Q E h => ?_) (fun cdv A outer s H vs Q E hr h => ?_)
  · obtain ⟨a, b, r, s, rfl, _⟩ := h
    rfl
  · obtain ⟨a, b, r, s, rfl, ha, hb, q⟩ := h
    refine ⟨_, (pss_cons (ps_setLc (i := 2) (own := [("_law_k", 3)]) (g := gName 3) (tt := tYes) (te := tCB (fun xs H Q => ∃ i j : Int, xs = [V.int i, V.int j] ∧ Q (V.int (if j < i then j else i)) H) (tCons (tOp (rIxL K) (tVar 0) (tVar 3)) (tCons (tOp (rIxL K) (tVar 1) (tVar 3)) tNil))) (by rfl) sc_law_rule_both.nd rfl rfl (sw_true rfl rfl rfl (by decide +kernel)) (pi_range1 (by rfl) T.m_range (pa_cons pe_int pa_nil)) (blkOk_by (own := [("_law_k", 3)]) (N := ["_law_one", "_law_other", "_law_found", "_law_k"]) (sc := defScope s_law_rule_both) (by decide +kernel)) (fun _ _ _ _ _ => (pg_name (i := 3) sc_law_rule_both.nd rfl (Or.inl rfl))) (fun _ _ _ _ _ => pts_nil) (fun _ _ _ _ _ => (pe_callB (call_min2 rfl) (by rfl) T.m_min (by decide +kernel) (pa_cons (pe_ix ix_list (pv 0) (pv 3) (fun _ _ => rfl)) (pa_cons (pe_ix ix_list (pv 1) (pv 3) (fun _ _ => rfl)) pa_nil)))))
      (pss_cons (ps_set (i := 2) sc_law_rule_both.nd rfl (.inl rfl) (pe_op op_cat (pv 2) (pe_lc (own := [("_law_k", 3)]) (g := gName 3) (tt := tYes) (te := tPure (tOrV (tOp (rIxL K) (tVar 0) (tVar 3)) (tOp (rIxL K) (tVar 1) (tVar 3)))) (by rfl) sc_law_rule_both.nd (pi_range2 (by rfl) T.m_range (pa_cons pe_int (pa_cons pe_int pa_nil))) (blkOk_by (own := [("_law_k", 3)]) (N := ["_law_one", "_law_other", "_law_found", "_law_k"]) (sc := defScope s_law_rule_both) (by decide +kernel)) (fun _ _ _ _ _ => (pg_name (i := 3) sc_law_rule_both.nd rfl (Or.inl rfl))) (fun _ _ _ _ _ => pts_nil) (fun _ _ _ _ _ => (pe_pure (pe_or (pe_ix ix_list (pv 0) (pv 3) (fun _ _ => rfl)) (pe_one (pe_ix ix_list (pv 1) (pv 3) (fun _ _ => rfl)))))))))
      (pss_cons (ps_asg (pe_pure (pe_and (pe_ix ix_list (pv 0) pe_int (fun _ _ => rfl)) (pe_one (pe_ix ix_list (pv 1) pe_int (fun _ _ => rfl))))) (pg_sub (pv 2) pe_int set_list))
      (pss_one (ps_ret (pv 2)))))), ?_⟩
    refine ⟨3, rfl, by decide, by decide, fun D hD => ?_⟩
    refine lc_range (lo := 0) (n := 3) (fun i H' => Same H H' ∧ H' D = some (.lst (([mnI r.keep s.keep, mnI r.worn s.worn, mnI r.alone s.alone].take i).map V.int))) ⟨same_upd hD, upd_same⟩ ?_ ?_
    · rintro i H' hi ⟨t, eD⟩
      have ha' := SqL.of (K := K) (t _ _ ha)
      have hb' := SqL.of (K := K) (t _ _ hb)
      rcases lt3 hi with rfl | rfl | rfl
      · exact ⟨rfl, .ref a, rfl, _, rfl, a, _, _, _, rfl, rfl, ha', (rfl : atI (vR r) (0 + 0) = some (.int r.keep)), .ref b, rfl, _, rfl, b, _, _, _, rfl, rfl, hb', (rfl : atI (vR s) (0 + 0) = some (.int s.keep)), _, _, rfl, _, eD, (by show 0 < sizeLine; decide), same_mut t hD, by rw [upd_same]; rfl⟩
      · exact ⟨rfl, .ref a, rfl, _, rfl, a, _, _, _, rfl, rfl, ha', (rfl : atI (vR r) (0 + 1) = some (.int r.worn)), .ref b, rfl, _, rfl, b, _, _, _, rfl, rfl, hb', (rfl : atI (vR s) (0 + 1) = some (.int s.worn)), _, _, rfl, _, eD, (by show 1 < sizeLine; decide), same_mut t hD, by rw [upd_same]; rfl⟩
      · exact ⟨rfl, .ref a, rfl, _, rfl, a, _, _, _, rfl, rfl, ha', (rfl : atI (vR r) (0 + 2) = some (.int r.alone)), .ref b, rfl, _, rfl, b, _, _, _, rfl, rfl, hb', (rfl : atI (vR s) (0 + 2) = some (.int s.alone)), _, _, rfl, _, eD, (by show 2 < sizeLine; decide), same_mut t hD, by rw [upd_same]; rfl⟩
    rintro H1 ⟨s1, eD⟩
    refine ⟨.ref D, rfl, 3, 8, rfl, by decide, fun E hE => ?_⟩
    have eD' : ∀ {H'}, Same H1 H' → H' D = some (.lst [.int (mnI r.keep s.keep), .int (mnI r.worn s.worn), .int (mnI r.alone s.alone)]) := fun t => t _ _ eD
    refine lc_range (lo := 3) (n := 5) (fun i H' => Same H1 H' ∧ H' E = some (.lst (([r.anew || s.anew, r.own || s.own, r.common || s.common, r.never || s.never, r.strict || s.strict].take i).map V.bl))) ⟨same_upd hE, upd_same⟩ ?_ ?_
    · rintro i H' hi ⟨t, eE⟩
      have ha' := SqL.of (K := K) ((s1.trans t) _ _ ha)
      have hb' := SqL.of (K := K) ((s1.trans t) _ _ hb)
      rcases lt5 hi with rfl | rfl | rfl | rfl | rfl
      · refine ⟨rfl, .bl (r.anew || s.anew), ⟨.ref a, rfl, _, rfl, a, _, _, _, rfl, rfl, ha', (rfl : atI (vR r) (3 + 0) = some (.bl r.anew)), _, rfl, ite2 (fun e => by rw [e]; exact ⟨rfl, rfl⟩) (fun e => ⟨.ref b, rfl, _, rfl, b, _, _, _, rfl, rfl, hb', (rfl : atI (vR s) (3 + 0) = some (.bl s.anew)), by rw [show r.anew = false by simpa using e]; rfl, rfl⟩)⟩, _, eE, (by show 0 < sizeLine; decide), same_mut t hE, by rw [upd_same]; rfl⟩
      · refine ⟨rfl, .bl (r.own || s.own), ⟨.ref a, rfl, _, rfl, a, _, _, _, rfl, rfl, ha', (rfl : atI (vR r) (3 + 1) = some (.bl r.own)), _, rfl, ite2 (fun e => by rw [e]; exact ⟨rfl, rfl⟩) (fun e => ⟨.ref b, rfl, _, rfl, b, _, _, _, rfl, rfl, hb', (rfl : atI (vR s) (3 + 1) = some (.bl s.own)), by rw [show r.own = false by simpa using e]; rfl, rfl⟩)⟩, _, eE, (by show 1 < sizeLine; decide), same_mut t hE, by rw [upd_same]; rfl⟩
      · refine ⟨rfl, .bl (r.common || s.common), ⟨.ref a, rfl, _, rfl, a, _, _, _, rfl, rfl, ha', (rfl : atI (vR r) (3 + 2) = some (.bl r.common)), _, rfl, ite2 (fun e => by rw [e]; exact ⟨rfl, rfl⟩) (fun e => ⟨.ref b, rfl, _, rfl, b, _, _, _, rfl, rfl, hb', (rfl : atI (vR s) (3 + 2) = some (.bl s.common)), by rw [show r.common = false by simpa using e]; rfl, rfl⟩)⟩, _, eE, (by show 2 < sizeLine; decide), same_mut t hE, by rw [upd_same]; rfl⟩
      · refine ⟨rfl, .bl (r.never || s.never), ⟨.ref a, rfl, _, rfl, a, _, _, _, rfl, rfl, ha', (rfl : atI (vR r) (3 + 3) = some (.bl r.never)), _, rfl, ite2 (fun e => by rw [e]; exact ⟨rfl, rfl⟩) (fun e => ⟨.ref b, rfl, _, rfl, b, _, _, _, rfl, rfl, hb', (rfl : atI (vR s) (3 + 3) = some (.bl s.never)), by rw [show r.never = false by simpa using e]; rfl, rfl⟩)⟩, _, eE, (by show 3 < sizeLine; decide), same_mut t hE, by rw [upd_same]; rfl⟩
      · refine ⟨rfl, .bl (r.strict || s.strict), ⟨.ref a, rfl, _, rfl, a, _, _, _, rfl, rfl, ha', (rfl : atI (vR r) (3 + 4) = some (.bl r.strict)), _, rfl, ite2 (fun e => by rw [e]; exact ⟨rfl, rfl⟩) (fun e => ⟨.ref b, rfl, _, rfl, b, _, _, _, rfl, rfl, hb', (rfl : atI (vR s) (3 + 4) = some (.bl s.strict)), by rw [show r.strict = false by simpa using e]; rfl, rfl⟩)⟩, _, eE, (by show 4 < sizeLine; decide), same_mut t hE, by rw [upd_same]; rfl⟩
    rintro H2 ⟨s2, eE⟩
    refine ⟨D, E, _, _, rfl, rfl, eD' s2, eE, (by show 8 ≤ sizeLine; decide), fun p hp => ?_⟩
    have s3 := same_upd (o := .lst ([.int (mnI r.keep s.keep), .int (mnI r.worn s.worn), .int (mnI r.alone s.alone)] ++ ([r.anew || s.anew, r.own || s.own, r.common || s.common, r.never || s.never, r.strict || s.strict].take 5).map V.bl)) hp
    have t3 := (s1.trans s2).trans s3
    have a5 : atI (vR r) 5 = some (.bl r.common) := rfl
    have b5 : atI (vR s) 5 = some (.bl s.common) := rfl
    refine ⟨.bl (r.common && s.common), ⟨.ref a, rfl, a, _, 5, _, rfl, rfl, SqL.of (t3 _ _ ha), a5, _, rfl, ite2 (fun e => ⟨.ref b, rfl, b, _, 5, _, rfl, rfl, SqL.of (t3 _ _ hb), b5, by rw [e]; rfl, rfl⟩) (fun e => by rw [show r.common = false by simpa using e]; exact ⟨rfl, rfl⟩)⟩, .ref p, rfl, p, _, 5, 5, rfl, rfl, upd_same, rfl, ?_⟩
    have hp0 : H p = none := (s1.trans s2).free hp
    refine ⟨.ref p, rfl, q p _ hp0 (same_mut t3 hp0) ?_⟩
    rw [upd_same]
    rfl
def spWB : Sp := fun vs H Q _ => ∃ (a b : Addr) (r s : WishR), vs = [.ref a, .ref b] ∧ H a = some (.lst (vW r)) ∧ H b = some (.lst (vW s)) ∧ ∀ p H', H p = none → Same H H' → H' p = some (.lst (vW (bothW r s))) → Q (.ref p) H'
theorem ok_law_wish_both (T : Txt K mg) : FnOk P w K mg base CX0 2 T.f_law_wish_both T.fd_law_wish_both ["_law_one", "_law_other"] spWB := by
  refine T.d_law_wish_both.F.ok sc_law_wish_both (fun vs H Q E h => ?_) (fun cdv A outer s H vs Q E hr h => ?_)
  · obtain ⟨a, b, r, s, rfl, _⟩ := h
    rfl
  · obtain ⟨a, b, r, s, rfl, ha, hb, q⟩ := h
    refine ⟨_, (pss_cons (ps_set (i := 2) sc_law_wish_both.nd rfl (.inl rfl) (pe_lst (pa_cons (pe_call (ok_law_less T) (hr.mono (by decide)) (by rfl) T.d_law_less.g T.d_law_less.F.kp T.d_law_less.b .nil pass0 (pa_cons (pe_ix ix_list (pv 0) pe_int (fun _ _ => rfl)) (pa_cons (pe_ix ix_list (pv 1) pe_int (fun _ _ => rfl)) pa_nil))) (pa_cons (pe_callB (call_max2 rfl) (by rfl) T.m_max (by decide +kernel) (pa_cons (pe_ix ix_list (pv 0) pe_int (fun _ _ => rfl)) (pa_cons (pe_ix ix_list (pv 1) pe_int (fun _ _ => rfl)) pa_nil))) (pa_cons (pe_callB (call_min2 rfl) (by rfl) T.m_min (by decide +kernel) (pa_cons (pe_ix ix_list (pv 0) pe_int (fun _ _ => rfl)) (pa_cons (pe_ix ix_list (pv 1) pe_int (fun _ _ => rfl)) pa_nil))) pa_nil)))))
      (pss_one (ps_ret (pe_op op_cat (pv 2) (pe_lc (own := [("_law_k", 3)]) (g := gName 3) (tt := tYes) (te := tPure (tOrV (tOp (rIxL K) (tVar 0) (tVar 3)) (tOp (rIxL K) (tVar 1) (tVar 3)))) (by rfl) sc_law_wish_both.nd (pi_range2 (by rfl) T.m_range (pa_cons pe_int (pa_cons pe_int pa_nil))) (blkOk_by (own := [("_law_k", 3)]) (N := ["_law_one", "_law_other", "_law_found", "_law_k"]) (sc := defScope s_law_wish_both) (by decide +kernel)) (fun _ _ _ _ _ => (pg_name (i := 3) sc_law_wish_both.nd rfl (Or.inl rfl))) (fun _ _ _ _ _ => pts_nil) (fun _ _ _ _ _ => (pe_pure (pe_or (pe_ix ix_list (pv 0) (pv 3) (fun _ _ => rfl)) (pe_one (pe_ix ix_list (pv 1) (pv 3) (fun _ _ => rfl))))))))))), ?_⟩
    have a0 : atI (vW r) 0 = some (oV r.atmost) := rfl
    have a1 : atI (vW r) 1 = some (.int r.left) := rfl
    have a2 : atI (vW r) 2 = some (.int r.worn) := rfl
    have b0 : atI (vW s) 0 = some (oV s.atmost) := rfl
    have b1 : atI (vW s) 1 = some (.int s.left) := rfl
    have b2 : atI (vW s) 2 = some (.int s.worn) := rfl
    refine ⟨.ref a, rfl, a, _, 0, _, rfl, rfl, SqL.of ha, a0, .ref b, rfl, b, _, 0, _, rfl, rfl, SqL.of hb, b0, r.atmost, s.atmost, rfl, .ref a, rfl, a, _, 1, _, rfl, rfl, SqL.of ha, a1, .ref b, rfl, b, _, 1, _, rfl, rfl, SqL.of hb, b1, _, _, rfl, .ref a, rfl, a, _, 2, _, rfl, rfl, SqL.of ha, a2, .ref b, rfl, b, _, 2, _, rfl, rfl, SqL.of hb, b2, _, _, rfl, (by show 3 ≤ sizeLine; decide), fun D hD => ?_⟩
    have s1 := same_upd (o := .lst [oV (lesO r.atmost s.atmost), .int (mxI r.left s.left), .int (mnI r.worn s.worn)]) hD
    have eD : (upd H D (.lst [oV (lesO r.atmost s.atmost), .int (mxI r.left s.left), .int (mnI r.worn s.worn)])) D = some (.lst [oV (lesO r.atmost s.atmost), .int (mxI r.left s.left), .int (mnI r.worn s.worn)]) := upd_same
    refine ⟨.ref D, rfl, 3, 6, rfl, by decide, fun E hE => ?_⟩
    refine lc_range (lo := 3) (n := 3) (fun i H' => Same (upd H D (.lst [oV (lesO r.atmost s.atmost), .int (mxI r.left s.left), .int (mnI r.worn s.worn)])) H' ∧ H' E = some (.lst (([r.anew || s.anew, r.kept || s.kept, r.firm || s.firm].take i).map V.bl))) ⟨same_upd hE, upd_same⟩ ?_ ?_
    · rintro i H' hi ⟨t, eE⟩
      have ha' := SqL.of (K := K) ((s1.trans t) _ _ ha)
      have hb' := SqL.of (K := K) ((s1.trans t) _ _ hb)
      rcases lt3 hi with rfl | rfl | rfl
      · refine ⟨rfl, .bl (r.anew || s.anew), ⟨.ref a, rfl, _, rfl, a, _, _, _, rfl, rfl, ha', (rfl : atI (vW r) (3 + 0) = some (.bl r.anew)), _, rfl, ite2 (fun e => by rw [e]; exact ⟨rfl, rfl⟩) (fun e => ⟨.ref b, rfl, _, rfl, b, _, _, _, rfl, rfl, hb', (rfl : atI (vW s) (3 + 0) = some (.bl s.anew)), by rw [show r.anew = false by simpa using e]; rfl, rfl⟩)⟩, _, eE, (by show 0 < sizeLine; decide), same_mut t hE, by rw [upd_same]; rfl⟩
      · refine ⟨rfl, .bl (r.kept || s.kept), ⟨.ref a, rfl, _, rfl, a, _, _, _, rfl, rfl, ha', (rfl : atI (vW r) (3 + 1) = some (.bl r.kept)), _, rfl, ite2 (fun e => by rw [e]; exact ⟨rfl, rfl⟩) (fun e => ⟨.ref b, rfl, _, rfl, b, _, _, _, rfl, rfl, hb', (rfl : atI (vW s) (3 + 1) = some (.bl s.kept)), by rw [show r.kept = false by simpa using e]; rfl, rfl⟩)⟩, _, eE, (by show 1 < sizeLine; decide), same_mut t hE, by rw [upd_same]; rfl⟩
      · refine ⟨rfl, .bl (r.firm || s.firm), ⟨.ref a, rfl, _, rfl, a, _, _, _, rfl, rfl, ha', (rfl : atI (vW r) (3 + 2) = some (.bl r.firm)), _, rfl, ite2 (fun e => by rw [e]; exact ⟨rfl, rfl⟩) (fun e => ⟨.ref b, rfl, _, rfl, b, _, _, _, rfl, rfl, hb', (rfl : atI (vW s) (3 + 2) = some (.bl s.firm)), by rw [show r.firm = false by simpa using e]; rfl, rfl⟩)⟩, _, eE, (by show 2 < sizeLine; decide), same_mut t hE, by rw [upd_same]; rfl⟩
    rintro H2 ⟨s2, eE⟩
    refine ⟨D, E, _, _, rfl, rfl, s2 _ _ eD, eE, (by show 6 ≤ sizeLine; decide), fun p hp => ?_⟩
    exact q p _ ((s1.trans s2).free hp) ((s1.trans s2).trans (same_upd hp)) upd_same
/-! ### the same fields -/
def spSame (C D : Addr) : Sp := fun vs H Q _ => ∃ p f : Addr, vs = [.ref p, .ref f] ∧ ((∃ r, RuleAt C H p r ∧ H f = some (.lst (vR r))) ∨ ∃ r, WishAt D H p r ∧ H f = some (.lst (vW r))) ∧ ∀ H', Same H H' → Q (.bl true) H'
theorem ok_law_same (T : Txt K mg) : FnOk P w K mg base CX0 2 T.f_law_same T.fd_law_same ["_law_one", "_law_fields"] (spSame T.C_Rule T.C_Wish) := by
  refine T.d_law_same.F.ok sc_law_same (fun vs H Q E h => ?_) (fun cdv A outer s H vs Q E hr h => ?_)
  · obtain ⟨p, f, rfl, _⟩ := h
    rfl
  · obtain ⟨p, f, rfl, h, q⟩ := h
    refine ⟨_, (pss_cons (ps_set (i := 2) sc_law_same.nd rfl (.inl rfl) (pe_call (ok_law_rule_fields T) (hr.mono (by decide)) (by rfl) T.d_law_rule_fields.g T.d_law_rule_fields.F.kp T.d_law_rule_fields.b .nil pass0 (pa_cons (pv 0) pa_nil)))
      (pss_cons (ps_if (pt_cmpR op_eq (pe_callB call_len_seq (by rfl) T.m_len (by decide +kernel) (pa_cons (pv 1) pa_nil)) pe_int (nomark _))
      (pss_one (ps_set (i := 2) sc_law_same.nd rfl (.inl rfl) (pe_call (ok_law_wish_fields T) (hr.mono (by decide)) (by rfl) T.d_law_wish_fields.g T.d_law_wish_fields.F.kp T.d_law_wish_fields.b .nil pass0 (pa_cons (pv 0) pa_nil))))
      pss_nil)
      (pss_one (ps_ret (pe_mid (pe_and (pe_cmpR (op_eqD hr.units) (pv 2) (pv 1) (nomark _)) (pe_one (pe_call (ok_law_true T) (hr.mono (by decide)) (by rfl) T.d_law_true.g T.d_law_true.F.kp T.d_law_true.b .nil pass0 (pa_cons (pv 2) (pa_cons pe_int pa_nil)))))))))), ?_⟩
    rcases h with ⟨r, hp, hf⟩ | ⟨r, hp, hf⟩
    · refine ⟨.ref p, rfl, p, rfl, .inl ⟨r, hp, fun x hx => ?_⟩⟩
      have s1 := same_upd (o := .lst (vR r)) hx
      have ex : (upd H x (.lst (vR r))) x = some (.lst (vR r)) := upd_same
      generalize upd H x (.lst (vR r)) = H1 at *
      refine ⟨.ref f, rfl, f, _, rfl, .inl (SqL.of (s1 _ _ hf)), rfl, false, rfl, ?_⟩
      refine ⟨fun v H' => v = .bl true ∧ Same H1 H', ?_, fun v H' hv => ?_⟩
      · refine ⟨.ref x, rfl, .ref f, rfl, rowD (vR r), rowD (vR r), .lst (SqL.of ex) (dp_vs (ok_vR r)), .lst (SqL.of (s1 _ _ hf)) (dp_vs (ok_vR r)), shaped_vs _, shaped_vs _, true, congrArg V.bl (SeqAt.eqv_refl _ (SeqAt.canLay_of_shaped (shaped_vs (vR r)))), ?_⟩
        exact ⟨.ref x, rfl, x, .int r.keep, .int r.worn, .int r.alone, [r.anew, r.own, r.common, r.never, r.strict], rfl, ex, (fun v hv => by
          simp only [List.mem_cons, List.not_mem_nil, or_false] at hv
          rcases hv with rfl | rfl | rfl <;> exact .inr ⟨_, rfl⟩), (by show 5 ≤ 10; decide), fun H' s => ⟨rfl, s⟩⟩
      · obtain ⟨rfl, s⟩ := hv
        exact q _ (s1.trans s)
    · refine ⟨.ref p, rfl, p, rfl, .inr ⟨r, hp, ?_⟩⟩
      refine ⟨.ref f, rfl, f, _, rfl, .inl (SqL.of hf), rfl, true, rfl, ?_⟩
      refine ⟨.ref p, rfl, p, rfl, .inl ⟨r, hp, fun x hx => ?_⟩⟩
      have s1 := same_upd (o := .lst (vW r)) hx
      have ex : (upd H x (.lst (vW r))) x = some (.lst (vW r)) := upd_same
      generalize upd H x (.lst (vW r)) = H1 at *
      refine ⟨fun v H' => v = .bl true ∧ Same H1 H', ?_, fun v H' hv => ?_⟩
      · refine ⟨.ref x, rfl, .ref f, rfl, rowD (vW r), rowD (vW r), .lst (SqL.of ex) (dp_vs (ok_vW r)), .lst (SqL.of (s1 _ _ hf)) (dp_vs (ok_vW r)), shaped_vs _, shaped_vs _, true, congrArg V.bl (SeqAt.eqv_refl _ (SeqAt.canLay_of_shaped (shaped_vs (vW r)))), ?_⟩
        exact ⟨.ref x, rfl, x, oV r.atmost, .int r.left, .int r.worn, [r.anew, r.kept, r.firm], rfl, ex, (fun v hv => by
          simp only [List.mem_cons, List.not_mem_nil, or_false] at hv
          rcases hv with rfl | rfl | rfl
          · cases r.atmost with
            | none => exact .inl rfl
            | some n => exact .inr ⟨n, rfl⟩
          · exact .inr ⟨_, rfl⟩
          · exact .inr ⟨_, rfl⟩), (by show 3 ≤ 10; decide), fun H' s => ⟨rfl, s⟩⟩
      · obtain ⟨rfl, s⟩ := hv
        exact q _ (s1.trans s)
end
end My
namespace My
open PySem PySem.Spec PyProof.Rows L2 TL
/-! ### both of two, and again -/
theorem mn_self (i : Int) : mnI i i = i := by
  unfold mnI
  split <;> rfl
theorem mn_abs (i j : Int) : mnI j (mnI i j) = mnI i j := by
  unfold mnI
  split <;> split <;> omega
theorem mx_abs (i j : Int) : mxI j (mxI i j) = mxI i j := by
  unfold mxI
  split <;> split <;> omega
theorem les_abs (a b : Option Int) : lesO b (lesO a b) = lesO a b := by
  cases a with
  | none =>
    cases b with
    | none => rfl
    | some b => exact congrArg some (mn_self b)
  | some a =>
    cases b with
    | none => rfl
    | some b => exact congrArg some (mn_abs a b)
theorem or_abs (a b : Bool) : (b || (a || b)) = (a || b) := by cases a <;> cases b <;> rfl
theorem and_abs (a b : Bool) : (b && (a && b)) = (a && b) := by cases a <;> cases b <;> rfl
theorem bothR_abs (r s : RuleR) : bothR s (bothR r s) = bothR r s := by
  show (⟨mnI s.keep (mnI r.keep s.keep), mnI s.worn (mnI r.worn s.worn), mnI s.alone (mnI r.alone s.alone), s.anew || (r.anew || s.anew), s.own || (r.own || s.own), s.common && (r.common && s.common), s.never || (r.never || s.never), s.strict || (r.strict || s.strict)⟩ : RuleR) = _
  rw [mn_abs, mn_abs, mn_abs, or_abs, or_abs, and_abs, or_abs, or_abs]
  rfl
theorem bothW_abs (r s : WishR) : bothW s (bothW r s) = bothW r s := by
  show (⟨lesO s.atmost (lesO r.atmost s.atmost), mxI s.left (mxI r.left s.left), mnI s.worn (mnI r.worn s.worn), s.anew || (r.anew || s.anew), s.kept || (r.kept || s.kept), s.firm || (r.firm || s.firm)⟩ : WishR) = _
  rw [les_abs, mx_abs, mn_abs, or_abs, or_abs, or_abs]
  rfl
theorem fR_both (r : RuleR) : (fR r).lookup ("both" : Str) = none := by unfold fR; (repeat (rw [lookup_putF, if_neg (by decide +kernel)])); rfl
theorem fW_both (r : WishR) : (fW r).lookup ("both" : Str) = none := by unfold fW; (repeat (rw [lookup_putF, if_neg (by decide +kernel)])); rfl
/-- nine rows, three by three -/
def nine {α : Type} (f : α → α → α) (rs : List α) : List α := rs.flatMap fun r => rs.map fun s => f r s
theorem nine_at {α : Type} (f : α → α → α) (a b c : α) {j k : Nat} (hj : j < 3) (hk : k < 3) {x y : α} (hx : [a, b, c][j]? = some x) (hy : [a, b, c][k]? = some y) : (nine f [a, b, c])[3 * j + k]? = some (f x y) := by
  have h1 : j = 0 ∨ j = 1 ∨ j = 2 := by omega
  have h2 : k = 0 ∨ k = 1 ∨ k = 2 := by omega
  rcases h1 with rfl | rfl | rfl <;> rcases h2 with rfl | rfl | rfl <;> cases hx <;> cases hy <;> rfl
theorem three_of {α : Type} {l : List α} {j : Nat} (hl : l.length = 3) (hj : j < 3) : ∃ x, l[j]? = some x := ⟨l[j]'(by omega), List.getElem?_eq_getElem (by omega)⟩
theorem paired_at {α β : Type} {R : α → β → Prop} : ∀ {a : List α} {b : List β} {i : Nat} {x : α}, Paired R a b → a[i]? = some x → ∃ y, b[i]? = some y ∧ R x y
  | _, _, _, _, .nil, h => by simp at h
  | _, _, 0, _, .cons r t, h => by
    cases h
    exact ⟨_, rfl, r⟩
  | _, _, n + 1, _, .cons r t, h => by
    obtain ⟨y, h1, h2⟩ := paired_at (i := n) t h
    exact ⟨y, h1, h2⟩
theorem paired_to {α β : Type} {R : α → β → Prop} : ∀ {a : List α} {b : List β} {i : Nat} {y : β}, Paired R a b → b[i]? = some y → ∃ x, a[i]? = some x ∧ R x y
  | _, _, _, _, .nil, h => by simp at h
  | _, _, 0, _, .cons r t, h => by
    cases h
    exact ⟨_, rfl, r⟩
  | _, _, n + 1, _, .cons r t, h => by
    obtain ⟨y, h1, h2⟩ := paired_to (i := n) t h
    exact ⟨y, h1, h2⟩
def RV (C : Addr) (H : Hp) (v : V) (r : RuleR) : Prop := ∃ x, v = .ref x ∧ RuleAt C H x r
def WV (C : Addr) (H : Hp) (v : V) (r : WishR) : Prop := ∃ x, v = .ref x ∧ WishAt C H x r
section
variable {P : Program} {w : World} {K : PySem.W.Frag} {mg : Str → Option Value} {base : Heap}
def spPairRule (C : Addr) : Sp := fun vs H Q _ => ∃ (a b d : Addr) (xs ys zs : List V) (rs : List RuleR), vs = [.ref a, .ref b, .ref d] ∧ H a = some (.lst xs) ∧ Paired (RV C H) xs rs ∧ H b = some (.lst ys) ∧ Paired (fun v r => RowAt H v (vR r)) ys rs ∧ H d = some (.lst zs) ∧ Paired (fun v r => RowAt H v (vR r)) zs (nine bothR rs) ∧ rs.length = 3 ∧ ∀ H', Same H H' → Q (.bl true) H'
theorem ok_law_pair (T : Txt K mg) : FnOk P w K mg base CX0 4 T.f_law_pair T.fd_law_pair ["_law_made", "_law_rows", "_law_due"] (spPairRule T.C_Rule) := by
  refine T.d_law_pair.F.ok sc_law_pair (fun vs H Q E h => ?_) (fun cdv A outer s H vs Q E hr h => ?_)
  · obtain ⟨a, b, d, xs, ys, zs, rs, rfl, _⟩ := h
    rfl
  · obtain ⟨a, b, d, xs, ys, zs, rs, rfl, ha, hx, hb, hy, hd, hz, lr, q⟩ := h
    refine ⟨_, (pss_cons (ps_for PassesOwn.never rfl (pi_range1 (by rfl) T.m_range (pa_cons pe_int pa_nil)) (pg_name (i := 3) sc_law_pair.nd rfl (.inl rfl))
      (pss_one (ps_for PassesOwn.never rfl (pi_range1 (by rfl) T.m_range (pa_cons pe_int pa_nil)) (pg_name (i := 4) sc_law_pair.nd rfl (.inl rfl))
      (pss_cons (ps_set (i := 5) sc_law_pair.nd rfl (.inl rfl) (pe_meth (pe_ix ix_list (pv 0) (pv 3) (fun _ _ => rfl)) T.cl_Rule T.me_Rule_both (ok_Rule_both T) (hr.mono (by decide)) T.d_Rule_both.b .nil pass0 (pa_cons (pe_ix ix_list (pv 0) (pv 4) (fun _ _ => rfl)) pa_nil)))
      (pss_cons (ps_if (pt_not (pt_val (pe_call (ok_law_same T) (hr.mono (by decide)) (by rfl) T.d_law_same.g T.d_law_same.F.kp T.d_law_same.b .nil pass0 (pa_cons (pv 5) (pa_cons (pe_ix ix_list (pv 2) (pe_op op_add (pe_op op_mul pe_int (pv 3)) (pv 4)) (fun _ _ => rfl)) pa_nil)))))
      (pss_one (ps_ret pe_bl))
      pss_nil)
      (pss_cons (ps_set (i := 6) sc_law_pair.nd rfl (.inl rfl) (pe_meth (pe_ix ix_list (pv 0) (pv 4) (fun _ _ => rfl)) T.cl_Rule T.me_Rule_both (ok_Rule_both T) (hr.mono (by decide)) T.d_Rule_both.b .nil pass0 (pa_cons (pv 5) pa_nil)))
      (pss_one (ps_if (pt_mid (PW.pt (pw_or (pt_not (pt_val (pe_call (ok_law_same T) (hr.mono (by decide)) (by rfl) T.d_law_same.g T.d_law_same.F.kp T.d_law_same.b .nil pass0 (pa_cons (pv 6) (pa_cons (pe_ix ix_list (pv 2) (pe_op op_add (pe_op op_mul pe_int (pv 3)) (pv 4)) (fun _ _ => rfl)) pa_nil))))) (pw_or1 (pt_not (pt_val (pe_call (ok_law_same T) (hr.mono (by decide)) (by rfl) T.d_law_same.g T.d_law_same.F.kp T.d_law_same.b .nil pass0 (pa_cons (pv 5) (pa_cons (pe_ix ix_list (pv 2) (pe_op op_add (pe_op op_mul pe_int (pv 3)) (pv 4)) (fun _ _ => rfl)) pa_nil)))))))))
      (pss_one (ps_ret pe_bl))
      pss_nil))))))))
      (pss_one (ps_ret (pe_cmpR (op_eqD hr.units) (pe_lc (own := [("_law_k", 4)]) (g := gName 4) (tt := tNot (tB (tCall (spSame T.C_Rule T.C_Wish) [] E0 (tCons (tOp (rIxL K) (tVar 0) (tVar 4)) (tCons (tOp (rIxL K) (tVar 1) (tVar 4)) tNil))))) (by rfl) sc_law_pair.nd (pi_range1 (by rfl) T.m_range (pa_cons pe_int pa_nil)) (blkOk_by (own := [("_law_k", 4)]) (N := ["_law_made", "_law_rows", "_law_due", "_law_j", "_law_k", "_law_one", "_law_other"]) (sc := defScope s_law_pair) (by decide +kernel)) (fun _ _ _ _ _ => (pg_name (i := 4) sc_law_pair.nd rfl (Or.inl rfl))) (fun _ _ _ _ _ => (pts_one (pt_not (pt_val (pe_call (ok_law_same T) (hr.mono (by decide)) (by rfl) T.d_law_same.g T.d_law_same.F.kp T.d_law_same.b .nil pass0 (pa_cons (pe_ix ix_list (pv 0) (pv 4) (fun _ _ => rfl)) (pa_cons (pe_ix ix_list (pv 1) (pv 4) (fun _ _ => rfl)) pa_nil))))))) (fun _ _ _ _ _ => (pv 4))) (pe_lst pa_nil) (nomark _))))), ?_⟩
    obtain ⟨r0, r1, r2, rfl⟩ : ∃ a b c, rs = [a, b, c] := match rs, lr with
      | [a, b, c], _ => ⟨a, b, c, rfl⟩
    have obj : ∀ {j : Nat}, j < 3 → ∃ x r, atI xs (0 + (j : Int)) = some (.ref x) ∧ [r0, r1, r2][j]? = some r ∧ RuleAt T.C_Rule H x r := fun {j} hj => by
      obtain ⟨r, hr'⟩ := three_of (l := [r0, r1, r2]) rfl hj
      obtain ⟨v, hv, x, rfl, h⟩ := paired_to hx hr'
      exact ⟨x, r, by rw [Int.zero_add]; exact atI_nat hv, hr', h⟩
    have row : ∀ {j : Nat} {r : RuleR}, [r0, r1, r2][j]? = some r → ∃ f, atI ys (0 + (j : Int)) = some (.ref f) ∧ H f = some (.lst (vR r)) := fun {j r} hr' => by
      obtain ⟨v, hv, f, rfl, h⟩ := paired_to hy hr'
      exact ⟨f, by rw [Int.zero_add]; exact atI_nat hv, h⟩
    have due : ∀ {j k : Nat} {r s : RuleR}, j < 3 → k < 3 → [r0, r1, r2][j]? = some r → [r0, r1, r2][k]? = some s → ∃ f, atI zs (3 * (0 + (j : Int)) + (0 + (k : Int))) = some (.ref f) ∧ H f = some (.lst (vR (bothR r s))) := fun {j k r s} hj hk h1 h2 => by
      obtain ⟨v, hv, f, rfl, h⟩ := paired_to hz (nine_at bothR r0 r1 r2 hj hk h1 h2)
      refine ⟨f, ?_, h⟩
      rw [show 3 * (0 + (j : Int)) + (0 + (k : Int)) = ((3 * j + k : Nat) : Int) by omega]
      exact atI_nat hv
    refine ⟨3, rfl, by decide, by decide, for_range (lo := 0) (n := 3) (fun i σ H' => Same H H' ∧ ∃ y3 y4 y5 y6, σ = [some (.ref a), some (.ref b), some (.ref d), y3, y4, y5, y6]) ⟨Same.refl _, none, none, none, none, rfl⟩ ?_ ?_⟩
    · rintro j σ H1 hj ⟨s1, y3, y4, y5, y6, rfl⟩
      refine ⟨3, rfl, by decide, by decide, for_range (lo := 0) (n := 3) (fun k σ H' => Same H H' ∧ ∃ y4 y5 y6, σ = [some (.ref a), some (.ref b), some (.ref d), some (.int (0 + (j : Int))), y4, y5, y6]) ⟨s1, y4, y5, y6, rfl⟩ ?_ ?_⟩
      · rintro k σ H2 hk ⟨s2, z4, z5, z6, rfl⟩
        obtain ⟨x, r, ax, hr', ox⟩ := obj hj
        obtain ⟨y, s, ay, hs', oy⟩ := obj hk
        obtain ⟨f, af, hf⟩ := due hj hk hr' hs'
        have ox2 := ox.mono s2
        have oy2 := oy.mono s2
        obtain ⟨dx, hxx⟩ := id ox2
        refine ⟨.ref a, rfl, _, rfl, a, _, _, _, rfl, rfl, SqL.of (s2 _ _ ha), ax, x, dx, _, rfl, hxx, fR_both _, .ref a, rfl, _, rfl, a, _, _, _, rfl, rfl, SqL.of (s2 _ _ ha), ay, x, y, r, s, rfl, ox2, oy2, fun o H3 no s3 ho => ?_⟩
        have t3 := s2.trans s3
        refine ⟨.ref o, rfl, .ref d, rfl, _, rfl, 3, _, rfl, rfl, .inl ⟨by decide, by decide⟩, _, rfl, _, _, rfl, rfl, d, _, _, _, rfl, rfl, SqL.of (t3 _ _ hd), af, o, f, rfl, .inl ⟨_, ho, t3 _ _ hf⟩, fun H4 s4 => ⟨true, rfl, ?_⟩⟩
        have t4 := t3.trans s4
        have oy4 := oy.mono t4
        have ho4 := ho.mono s4
        obtain ⟨dy, hyy⟩ := id oy4
        refine ⟨.ref a, rfl, _, rfl, a, _, _, _, rfl, rfl, SqL.of (t4 _ _ ha), ay, y, dy, _, rfl, hyy, fR_both _, .ref o, rfl, y, o, s, _, rfl, oy4, ho4, fun o2 H5 no2 s5 ho2 => ?_⟩
        rw [bothR_abs] at ho2
        have t5 := t4.trans s5
        refine ⟨fun b H' => b = false ∧ Same H5 H', ?_, fun b H' hb => ?_⟩
        · refine ⟨.ref o2, rfl, .ref d, rfl, _, rfl, 3, _, rfl, rfl, .inl ⟨by decide, by decide⟩, _, rfl, _, _, rfl, rfl, d, _, _, _, rfl, rfl, SqL.of (t5 _ _ hd), af, o2, f, rfl, .inl ⟨_, ho2, t5 _ _ hf⟩, fun H6 s6 => ⟨true, rfl, ?_⟩⟩
          have t6 := t5.trans s6
          exact ⟨.ref o, rfl, .ref d, rfl, _, rfl, 3, _, rfl, rfl, .inl ⟨by decide, by decide⟩, _, rfl, _, _, rfl, rfl, d, _, _, _, rfl, rfl, SqL.of (t6 _ _ hd), af, o, f, rfl, .inl ⟨_, ho4.mono (s5.trans s6), t6 _ _ hf⟩, fun H7 s7 => ⟨true, rfl, rfl, s6.trans s7⟩⟩
        · obtain ⟨rfl, s6⟩ := hb
          exact ⟨t5.trans s6, _, _, _, rfl⟩
      · rintro σ H2 ⟨s2, z4, z5, z6, rfl⟩
        exact ⟨s2, _, _, _, _, rfl⟩
    · rintro σ H1 ⟨s1, y3, y4, y5, y6, rfl⟩
      refine ⟨3, rfl, by decide, by decide, fun D hD => ?_⟩
      refine lc_range (lo := 0) (n := 3) (fun i H' => Same H1 H' ∧ H' D = some (.lst [])) ⟨same_upd hD, upd_same⟩ ?_ ?_
      · rintro i H' hi ⟨s2, eD⟩
        have t2 := s1.trans s2
        obtain ⟨x, r, ax, hr', ox⟩ := obj hi
        obtain ⟨f, af, hf⟩ := row hr'
        exact ⟨rfl, .ref a, rfl, _, rfl, a, _, _, _, rfl, rfl, SqL.of (t2 _ _ ha), ax, .ref b, rfl, _, rfl, b, _, _, _, rfl, rfl, SqL.of (t2 _ _ hb), af, x, f, rfl, .inl ⟨r, ox.mono t2, t2 _ _ hf⟩, fun H3 s3 => ⟨true, rfl, s2.trans s3, s3 _ _ eD⟩⟩
      · rintro H' ⟨s2, eD⟩
        refine ⟨Nat.zero_le _, fun e he => ?_⟩
        have s3 := same_upd (o := .lst []) he
        exact ⟨.list [], .list [], .lst (SqL.of (s3 _ _ eD)) .nil, .lst (SqL.of upd_same) .nil, by decide, by decide, q _ ((s1.trans s2).trans s3)⟩
def spPairWish (C : Addr) : Sp := fun vs H Q _ => ∃ (a b d : Addr) (xs ys zs : List V) (rs : List WishR), vs = [.ref a, .ref b, .ref d] ∧ H a = some (.lst xs) ∧ Paired (WV C H) xs rs ∧ H b = some (.lst ys) ∧ Paired (fun v r => RowAt H v (vW r)) ys rs ∧ H d = some (.lst zs) ∧ Paired (fun v r => RowAt H v (vW r)) zs (nine bothW rs) ∧ rs.length = 3 ∧ ∀ H', Same H H' → Q (.bl true) H'
theorem ok_law_pairW (T : Txt K mg) : FnOk P w K mg base CX0 4 T.f_law_pair T.fd_law_pair ["_law_made", "_law_rows", "_law_due"] (spPairWish T.C_Wish) := by
  refine T.d_law_pair.F.ok sc_law_pair (fun vs H Q E h => ?_) (fun cdv A outer s H vs Q E hr h => ?_)
  · obtain ⟨a, b, d, xs, ys, zs, rs, rfl, _⟩ := h
    rfl
  · obtain ⟨a, b, d, xs, ys, zs, rs, rfl, ha, hx, hb, hy, hd, hz, lr, q⟩ := h
    refine ⟨_, (pss_cons (ps_for PassesOwn.never rfl (pi_range1 (by rfl) T.m_range (pa_cons pe_int pa_nil)) (pg_name (i := 3) sc_law_pair.nd rfl (.inl rfl))
      (pss_one (ps_for PassesOwn.never rfl (pi_range1 (by rfl) T.m_range (pa_cons pe_int pa_nil)) (pg_name (i := 4) sc_law_pair.nd rfl (.inl rfl))
      (pss_cons (ps_set (i := 5) sc_law_pair.nd rfl (.inl rfl) (pe_meth (pe_ix ix_list (pv 0) (pv 3) (fun _ _ => rfl)) T.cl_Wish T.me_Wish_both (ok_Wish_both T) (hr.mono (by decide)) T.d_Wish_both.b .nil pass0 (pa_cons (pe_ix ix_list (pv 0) (pv 4) (fun _ _ => rfl)) pa_nil)))
      (pss_cons (ps_if (pt_not (pt_val (pe_call (ok_law_same T) (hr.mono (by decide)) (by rfl) T.d_law_same.g T.d_law_same.F.kp T.d_law_same.b .nil pass0 (pa_cons (pv 5) (pa_cons (pe_ix ix_list (pv 2) (pe_op op_add (pe_op op_mul pe_int (pv 3)) (pv 4)) (fun _ _ => rfl)) pa_nil)))))
      (pss_one (ps_ret pe_bl))
      pss_nil)
      (pss_cons (ps_set (i := 6) sc_law_pair.nd rfl (.inl rfl) (pe_meth (pe_ix ix_list (pv 0) (pv 4) (fun _ _ => rfl)) T.cl_Wish T.me_Wish_both (ok_Wish_both T) (hr.mono (by decide)) T.d_Wish_both.b .nil pass0 (pa_cons (pv 5) pa_nil)))
      (pss_one (ps_if (pt_mid (PW.pt (pw_or (pt_not (pt_val (pe_call (ok_law_same T) (hr.mono (by decide)) (by rfl) T.d_law_same.g T.d_law_same.F.kp T.d_law_same.b .nil pass0 (pa_cons (pv 6) (pa_cons (pe_ix ix_list (pv 2) (pe_op op_add (pe_op op_mul pe_int (pv 3)) (pv 4)) (fun _ _ => rfl)) pa_nil))))) (pw_or1 (pt_not (pt_val (pe_call (ok_law_same T) (hr.mono (by decide)) (by rfl) T.d_law_same.g T.d_law_same.F.kp T.d_law_same.b .nil pass0 (pa_cons (pv 5) (pa_cons (pe_ix ix_list (pv 2) (pe_op op_add (pe_op op_mul pe_int (pv 3)) (pv 4)) (fun _ _ => rfl)) pa_nil)))))))))
      (pss_one (ps_ret pe_bl))
      pss_nil))))))))
      (pss_one (ps_ret (pe_cmpR (op_eqD hr.units) (pe_lc (own := [("_law_k", 4)]) (g := gName 4) (tt := tNot (tB (tCall (spSame T.C_Rule T.C_Wish) [] E0 (tCons (tOp (rIxL K) (tVar 0) (tVar 4)) (tCons (tOp (rIxL K) (tVar 1) (tVar 4)) tNil))))) (by rfl) sc_law_pair.nd (pi_range1 (by rfl) T.m_range (pa_cons pe_int pa_nil)) (blkOk_by (own := [("_law_k", 4)]) (N := ["_law_made", "_law_rows", "_law_due", "_law_j", "_law_k", "_law_one", "_law_other"]) (sc := defScope s_law_pair) (by decide +kernel)) (fun _ _ _ _ _ => (pg_name (i := 4) sc_law_pair.nd rfl (Or.inl rfl))) (fun _ _ _ _ _ => (pts_one (pt_not (pt_val (pe_call (ok_law_same T) (hr.mono (by decide)) (by rfl) T.d_law_same.g T.d_law_same.F.kp T.d_law_same.b .nil pass0 (pa_cons (pe_ix ix_list (pv 0) (pv 4) (fun _ _ => rfl)) (pa_cons (pe_ix ix_list (pv 1) (pv 4) (fun _ _ => rfl)) pa_nil))))))) (fun _ _ _ _ _ => (pv 4))) (pe_lst pa_nil) (nomark _))))), ?_⟩
    obtain ⟨r0, r1, r2, rfl⟩ : ∃ a b c, rs = [a, b, c] := match rs, lr with
      | [a, b, c], _ => ⟨a, b, c, rfl⟩
    have obj : ∀ {j : Nat}, j < 3 → ∃ x r, atI xs (0 + (j : Int)) = some (.ref x) ∧ [r0, r1, r2][j]? = some r ∧ WishAt T.C_Wish H x r := fun {j} hj => by
      obtain ⟨r, hr'⟩ := three_of (l := [r0, r1, r2]) rfl hj
      obtain ⟨v, hv, x, rfl, h⟩ := paired_to hx hr'
      exact ⟨x, r, by rw [Int.zero_add]; exact atI_nat hv, hr', h⟩
    have row : ∀ {j : Nat} {r : WishR}, [r0, r1, r2][j]? = some r → ∃ f, atI ys (0 + (j : Int)) = some (.ref f) ∧ H f = some (.lst (vW r)) := fun {j r} hr' => by
      obtain ⟨v, hv, f, rfl, h⟩ := paired_to hy hr'
      exact ⟨f, by rw [Int.zero_add]; exact atI_nat hv, h⟩
    have due : ∀ {j k : Nat} {r s : WishR}, j < 3 → k < 3 → [r0, r1, r2][j]? = some r → [r0, r1, r2][k]? = some s → ∃ f, atI zs (3 * (0 + (j : Int)) + (0 + (k : Int))) = some (.ref f) ∧ H f = some (.lst (vW (bothW r s))) := fun {j k r s} hj hk h1 h2 => by
      obtain ⟨v, hv, f, rfl, h⟩ := paired_to hz (nine_at bothW r0 r1 r2 hj hk h1 h2)
      refine ⟨f, ?_, h⟩
      rw [show 3 * (0 + (j : Int)) + (0 + (k : Int)) = ((3 * j + k : Nat) : Int) by omega]
      exact atI_nat hv
    refine ⟨3, rfl, by decide, by decide, for_range (lo := 0) (n := 3) (fun i σ H' => Same H H' ∧ ∃ y3 y4 y5 y6, σ = [some (.ref a), some (.ref b), some (.ref d), y3, y4, y5, y6]) ⟨Same.refl _, none, none, none, none, rfl⟩ ?_ ?_⟩
    · rintro j σ H1 hj ⟨s1, y3, y4, y5, y6, rfl⟩
      refine ⟨3, rfl, by decide, by decide, for_range (lo := 0) (n := 3) (fun k σ H' => Same H H' ∧ ∃ y4 y5 y6, σ = [some (.ref a), some (.ref b), some (.ref d), some (.int (0 + (j : Int))), y4, y5, y6]) ⟨s1, y4, y5, y6, rfl⟩ ?_ ?_⟩
      · rintro k σ H2 hk ⟨s2, z4, z5, z6, rfl⟩
        obtain ⟨x, r, ax, hr', ox⟩ := obj hj
        obtain ⟨y, s, ay, hs', oy⟩ := obj hk
        obtain ⟨f, af, hf⟩ := due hj hk hr' hs'
        have ox2 := ox.mono s2
        have oy2 := oy.mono s2
        obtain ⟨dx, hxx⟩ := id ox2
        refine ⟨.ref a, rfl, _, rfl, a, _, _, _, rfl, rfl, SqL.of (s2 _ _ ha), ax, x, dx, _, rfl, hxx, fW_both _, .ref a, rfl, _, rfl, a, _, _, _, rfl, rfl, SqL.of (s2 _ _ ha), ay, x, y, r, s, rfl, ox2, oy2, fun o H3 no s3 ho => ?_⟩
        have t3 := s2.trans s3
        refine ⟨.ref o, rfl, .ref d, rfl, _, rfl, 3, _, rfl, rfl, .inl ⟨by decide, by decide⟩, _, rfl, _, _, rfl, rfl, d, _, _, _, rfl, rfl, SqL.of (t3 _ _ hd), af, o, f, rfl, .inr ⟨_, ho, t3 _ _ hf⟩, fun H4 s4 => ⟨true, rfl, ?_⟩⟩
        have t4 := t3.trans s4
        have oy4 := oy.mono t4
        have ho4 := ho.mono s4
        obtain ⟨dy, hyy⟩ := id oy4
        refine ⟨.ref a, rfl, _, rfl, a, _, _, _, rfl, rfl, SqL.of (t4 _ _ ha), ay, y, dy, _, rfl, hyy, fW_both _, .ref o, rfl, y, o, s, _, rfl, oy4, ho4, fun o2 H5 no2 s5 ho2 => ?_⟩
        rw [bothW_abs] at ho2
        have t5 := t4.trans s5
        refine ⟨fun b H' => b = false ∧ Same H5 H', ?_, fun b H' hb => ?_⟩
        · refine ⟨.ref o2, rfl, .ref d, rfl, _, rfl, 3, _, rfl, rfl, .inl ⟨by decide, by decide⟩, _, rfl, _, _, rfl, rfl, d, _, _, _, rfl, rfl, SqL.of (t5 _ _ hd), af, o2, f, rfl, .inr ⟨_, ho2, t5 _ _ hf⟩, fun H6 s6 => ⟨true, rfl, ?_⟩⟩
          have t6 := t5.trans s6
          exact ⟨.ref o, rfl, .ref d, rfl, _, rfl, 3, _, rfl, rfl, .inl ⟨by decide, by decide⟩, _, rfl, _, _, rfl, rfl, d, _, _, _, rfl, rfl, SqL.of (t6 _ _ hd), af, o, f, rfl, .inr ⟨_, ho4.mono (s5.trans s6), t6 _ _ hf⟩, fun H7 s7 => ⟨true, rfl, rfl, s6.trans s7⟩⟩
        · obtain ⟨rfl, s6⟩ := hb
          exact ⟨t5.trans s6, _, _, _, rfl⟩
      · rintro σ H2 ⟨s2, z4, z5, z6, rfl⟩
        exact ⟨s2, _, _, _, _, rfl⟩
    · rintro σ H1 ⟨s1, y3, y4, y5, y6, rfl⟩
      refine ⟨3, rfl, by decide, by decide, fun D hD => ?_⟩
      refine lc_range (lo := 0) (n := 3) (fun i H' => Same H1 H' ∧ H' D = some (.lst [])) ⟨same_upd hD, upd_same⟩ ?_ ?_
      · rintro i H' hi ⟨s2, eD⟩
        have t2 := s1.trans s2
        obtain ⟨x, r, ax, hr', ox⟩ := obj hi
        obtain ⟨f, af, hf⟩ := row hr'
        exact ⟨rfl, .ref a, rfl, _, rfl, a, _, _, _, rfl, rfl, SqL.of (t2 _ _ ha), ax, .ref b, rfl, _, rfl, b, _, _, _, rfl, rfl, SqL.of (t2 _ _ hb), af, x, f, rfl, .inr ⟨r, ox.mono t2, t2 _ _ hf⟩, fun H3 s3 => ⟨true, rfl, s2.trans s3, s3 _ _ eD⟩⟩
      · rintro H' ⟨s2, eD⟩
        refine ⟨Nat.zero_le _, fun e he => ?_⟩
        have s3 := same_upd (o := .lst []) he
        exact ⟨.list [], .list [], .lst (SqL.of (s3 _ _ eD)) .nil, .lst (SqL.of upd_same) .nil, by decide, by decide, q _ ((s1.trans s2).trans s3)⟩
end
end My
namespace My
open PySem PySem.Spec PyProof.Rows L2 TL
/-! ### rows in the making -/
def RK (bad : List Addr) (H : Hp) (v : V) (L : List V) : Prop := ∃ f, v = .ref f ∧ H f = some (.lst L) ∧ f ∉ bad
def Kb (bad : List Addr) (H H' : Hp) : Prop := ∀ b o, b ∉ bad → H b = some o → H' b = some o
theorem Kb.trans {bad : List Addr} {a b c : Hp} (x : Kb bad a b) (y : Kb bad b c) : Kb bad a c := fun q o n h => y q o n (x q o n h)
theorem Kb.same {bad : List Addr} {a b : Hp} (s : Same a b) : Kb bad a b := fun q o _ h => s q o h
theorem Kb.wx {bad : List Addr} {W : Addr} {a b : Hp} (x : Wx W a b) (h : W ∈ bad) : Kb bad a b := fun q o n e => x.keep q o (fun z => n (by rw [z]; exact h)) e
theorem Kb.set {bad : List Addr} {a b : Hp} (k : Kb bad a b) {q : Addr} (h : q ∈ bad) (o : HO) : Kb bad a (upd b q o) := fun z u n e => by
  rw [upd_ne (fun y => n (by rw [y]; exact h))]
  exact k z u n e
theorem rks_mono {bad : List Addr} {H H' : Hp} (k : Kb bad H H') {xs : List V} {Ls : List (List V)} (h : Paired (RK bad H) xs Ls) : Paired (RK bad H') xs Ls := Paired.mono (fun _ _ ⟨f, e, h, n⟩ => ⟨f, e, k _ _ n h, n⟩) h
theorem rks_rows {bad : List Addr} {H : Hp} {xs : List V} {Ls : List (List V)} (h : Paired (RK bad H) xs Ls) : Paired (RowAt H) xs Ls := Paired.mono (fun _ _ ⟨f, e, h, _⟩ => ⟨f, e, h⟩) h
theorem rks_ne {bad : List Addr} {H : Hp} {W : Addr} (hW : W ∈ bad) : ∀ {xs : List V} {Ls : List (List V)}, Paired (RK bad H) xs Ls → ∀ v ∈ xs, v ≠ .ref W
  | _, _, .cons ⟨f, e, _, n⟩ t, v, hv => by
    rcases List.mem_cons.mp hv with rfl | hv
    · subst e
      intro z
      cases z
      exact n hW
    · exact rks_ne hW t v hv
theorem paired_app {α β : Type} {R : α → β → Prop} : ∀ {a : List α} {b : List β} {c : List α} {d : List β}, Paired R a b → Paired R c d → Paired R (a ++ c) (b ++ d)
  | _, _, _, _, .nil, h => h
  | _, _, _, _, .cons x t, h => .cons x (paired_app t h)
theorem paired_set {α β : Type} {R : α → β → Prop} {x : α} {y : β} (r : R x y) : ∀ {a : List α} {b : List β} (n : Nat), Paired R a b → Paired R (a.set n x) (b.set n y)
  | _, _, _, .nil => .nil
  | _, _, 0, .cons _ t => .cons r t
  | _, _, n + 1, .cons q t => .cons q (paired_set r n t)
theorem paired_map {α β γ : Type} {R : α → γ → Prop} (f : β → γ) : ∀ {a : List α} {b : List β}, Paired R a (b.map f) → Paired (fun x y => R x (f y)) a b
  | _, [], .nil => .nil
  | _, _ :: _, .cons x t => .cons x (paired_map f t)
theorem good_vR (rs : List RuleR) : ∀ L ∈ rs.map vR, (∀ v ∈ L, okv v) ∧ ∃ u0 u1 u2 r, L = u0 :: u1 :: u2 :: r ∧ numOr u0 ∧ numOr u1 ∧ numOr u2 := fun L hL => by
  obtain ⟨r, _, rfl⟩ := List.mem_map.mp hL
  exact ⟨ok_vR r, _, _, _, _, rfl, .inr ⟨_, rfl⟩, .inr ⟨_, rfl⟩, .inr ⟨_, rfl⟩⟩
theorem good_vW (rs : List WishR) : ∀ L ∈ rs.map vW, (∀ v ∈ L, okv v) ∧ ∃ u0 u1 u2 r, L = u0 :: u1 :: u2 :: r ∧ numOr u0 ∧ numOr u1 ∧ numOr u2 := fun L hL => by
  obtain ⟨r, _, rfl⟩ := List.mem_map.mp hL
  refine ⟨ok_vW r, _, _, _, _, rfl, ?_, .inr ⟨_, rfl⟩, .inr ⟨_, rfl⟩⟩
  cases r.atmost with
  | none => exact .inl rfl
  | some n => exact .inr ⟨n, rfl⟩
theorem five {bs : List Bool} (h : (bs.length : Int) = 5) : ∃ a b c d e, bs = [a, b, c, d, e] := match bs, (show bs.length = 5 by omega) with
  | [a, b, c, d, e], _ => ⟨a, b, c, d, e, rfl⟩
theorem threeZ {bs : List Bool} (h : (bs.length : Int) = 3) : ∃ a b c, bs = [a, b, c] := match bs, (show bs.length = 3 by omega) with
  | [a, b, c], _ => ⟨a, b, c, rfl⟩
theorem rv_upd {C D : Addr} {H : Hp} {zs : List V} {o : HO} {us : List V} {rs : List RuleR} (hD : H D = some (.lst zs)) (h : Paired (RV C H) us rs) : Paired (RV C (upd H D o)) us rs := Paired.mono (fun _ _ ⟨x, e, dx, h⟩ => ⟨x, e, dx, by
  rw [upd_ne]
  · exact h
  · intro z
    rw [z, hD] at h
    cases h⟩) h
theorem wv_upd {C D : Addr} {H : Hp} {zs : List V} {o : HO} {us : List V} {rs : List WishR} (hD : H D = some (.lst zs)) (h : Paired (WV C H) us rs) : Paired (WV C (upd H D o)) us rs := Paired.mono (fun _ _ ⟨x, e, dx, h⟩ => ⟨x, e, dx, by
  rw [upd_ne]
  · exact h
  · intro z
    rw [z, hD] at h
    cases h⟩) h
theorem rv_mono {C : Addr} {H H' : Hp} {us : List V} {rs : List RuleR} (s : Same H H') (h : Paired (RV C H) us rs) : Paired (RV C H') us rs := Paired.mono (fun _ _ ⟨x, e, h⟩ => ⟨x, e, h.mono s⟩) h
theorem wv_mono {C : Addr} {H H' : Hp} {us : List V} {rs : List WishR} (s : Same H H') (h : Paired (WV C H) us rs) : Paired (WV C H') us rs := Paired.mono (fun _ _ ⟨x, e, h⟩ => ⟨x, e, h.mono s⟩) h
def RowN (F : Addr) (H : Hp) (v : V) (L : List V) : Prop := ∃ f, v = .ref f ∧ H f = some (.lst L) ∧ f ≠ F
theorem rowN_step {α : Type} {F : Addr} {H H' : Hp} {g : α → List V} {o : HO} (s : Same H H') {us : List V} {rs : List α} (h : Paired (fun v r => RowN F H v (g r)) us rs) : Paired (fun v r => RowN F (upd H' F o) v (g r)) us rs := Paired.mono (fun _ _ ⟨f, e, h, n⟩ => ⟨f, e, by rw [upd_ne n]; exact s _ _ h, n⟩) h
theorem rowN_at {α : Type} {F : Addr} {H : Hp} {g : α → List V} {us : List V} {rs : List α} (h : Paired (fun v r => RowN F H v (g r)) us rs) : Paired (fun v r => RowAt H v (g r)) us rs := Paired.mono (fun _ _ ⟨f, e, h, _⟩ => ⟨f, e, h⟩) h
theorem rowA_mono {α : Type} {H H' : Hp} {g : α → List V} (s : Same H H') {us : List V} {rs : List α} (h : Paired (fun v r => RowAt H v (g r)) us rs) : Paired (fun v r => RowAt H' v (g r)) us rs := Paired.mono (fun _ _ ⟨f, e, h⟩ => ⟨f, e, s _ _ h⟩) h
theorem take_id {α : Type} {xs : List α} {i : Nat} {c : α} (h : xs[i]? = some c) : xs.take (i + 1) = xs.take i ++ [c] := by
  rw [List.take_add_one, h]
  rfl
theorem threeL {α : Type} {l : List α} (h : l.length = 3) : ∃ a b c, l = [a, b, c] := match l, h with
  | [a, b, c], _ => ⟨a, b, c, rfl⟩
theorem flat_take {α β : Type} {rs : List α} {i : Nat} {r : α} (g : α → List β) (h : rs[i]? = some r) : (rs.take (i + 1)).flatMap g = (rs.take i).flatMap g ++ g r := by
  rw [take_id h, List.flatMap_append, List.flatMap_cons, List.flatMap_nil, List.append_nil]
theorem mn_comm (i j : Int) : mnI i j = mnI j i := by
  unfold mnI
  split <;> split <;> omega
theorem mn_assoc (i j k : Int) : mnI (mnI i j) k = mnI i (mnI j k) := by
  unfold mnI
  repeat' (first | omega | split)
theorem mx_comm (i j : Int) : mxI i j = mxI j i := by
  unfold mxI
  split <;> split <;> omega
theorem mx_assoc (i j k : Int) : mxI (mxI i j) k = mxI i (mxI j k) := by
  unfold mxI
  repeat' (first | omega | split)
theorem les_comm (a b : Option Int) : lesO a b = lesO b a := by
  cases a <;> cases b
  · rfl
  · rfl
  · rfl
  · exact congrArg some (mn_comm _ _)
theorem les_assoc (a b c : Option Int) : lesO (lesO a b) c = lesO a (lesO b c) := by
  cases a <;> cases b <;> cases c <;> first | rfl | exact congrArg some (mn_assoc _ _ _)
theorem bothR_comm (r s : RuleR) : bothR r s = bothR s r := by
  unfold bothR
  rw [mn_comm r.keep, mn_comm r.worn, mn_comm r.alone, Bool.or_comm r.anew, Bool.or_comm r.own, Bool.and_comm r.common, Bool.or_comm r.never, Bool.or_comm r.strict]
theorem bothR_assoc (r s t : RuleR) : bothR (bothR r s) t = bothR r (bothR s t) := by
  unfold bothR
  dsimp only
  rw [mn_assoc, mn_assoc, mn_assoc, Bool.or_assoc, Bool.or_assoc, Bool.and_assoc, Bool.or_assoc, Bool.or_assoc]
theorem bothW_comm (r s : WishR) : bothW r s = bothW s r := by
  unfold bothW
  rw [les_comm r.atmost, mx_comm r.left, mn_comm r.worn, Bool.or_comm r.anew, Bool.or_comm r.kept, Bool.or_comm r.firm]
theorem bothW_assoc (r s t : WishR) : bothW (bothW r s) t = bothW r (bothW s t) := by
  unfold bothW
  dsimp only
  rw [les_assoc, mx_assoc, mn_assoc, Bool.or_assoc, Bool.or_assoc, Bool.or_assoc]
theorem rowN_list {α β : Type} {F : Addr} {H : Hp} {g : β → List V} {us : List V} {f : α → β} {rs : List α} (h : Paired (fun v r => RowN F H v (g r)) us (rs.map f)) : Paired (fun v r => RowAt H v (g r)) us (rs.map f) := rowN_at h
/-- what stands while rows are made -/
structure Mk2 (W R M : Addr) (H : Hp) (n : Nat) (rs : List RuleR) (ws : List WishR) : Prop where
  well : IsW H W
  a : ∃ xs, H R = some (.lst xs) ∧ Paired (RK [W, R, M] H) xs (rs.map vR)
  b : ∃ ys, H M = some (.lst ys) ∧ Paired (RK [W, R, M] H) ys (ws.map vW)
  l1 : rs.length = n
  l2 : ws.length = n
end My
namespace My
open PySem PySem.Spec PyProof.Rows L2 TL
section
variable {P : Program} {w : World} {K : PySem.W.Frag} {mg : Str → Option Value} {base : Heap}
theorem ok_law (T : Txt K mg) : FnOk P w K mg base CX0 5 T.f_law T.fd_law ["_law_script"] (spLaw K) := by
  refine T.d_law.F.ok sc_law (fun vs H Q E h => ?_) (fun cdv A outer s H vs Q E hr h => ?_)
  · obtain ⟨a, ns, rfl, _⟩ := h
    rfl
  · obtain ⟨sc, ns, rfl, hS, hlen, q⟩ := h
    refine ⟨_, (pss_cons (ps_for PassesOwn.never rfl (pi_list (pe_op op_cat (pe_slice sl_list (pv 0) po_none (po_some pe_int)) (pe_lst (pa_cons pe_int (pa_cons pe_int (pa_cons pe_int pa_nil)))))) (pg_name (i := 1) sc_law.nd rfl (.inl rfl))
      (pss_cons (ps_set (i := 2) sc_law.nd rfl (.inr rfl) (pe_call (ok_law_well T) (hr.mono (by decide)) (by rfl) T.d_law_well.g T.d_law_well.F.kp T.d_law_well.b .nil pass0 (pa_cons (pv 1) pa_nil)))
      (pss_cons (ps_set (i := 3) sc_law.nd rfl (.inl rfl) (pe_cmpR op_eq (pe_call (ok_law_draw T) (hr.mono (by decide)) (by rfl) T.d_law_draw.g T.d_law_draw.F.kp T.d_law_draw.b .nil pass0 (pa_cons (pv 2) (pa_cons pe_int pa_nil))) pe_int (nomark _)))
      (pss_cons (ps_setLc (i := 4) (own := [("_law_k", 7)]) (g := gName 7) (tt := tYes) (by rfl) sc_law.nd rfl rfl (sw_true rfl rfl rfl (by decide +kernel)) (pi_range1 (by rfl) T.m_range (pa_cons pe_int pa_nil)) (blkOk_by (own := [("_law_k", 7)]) (N := ["_law_script", "_law_cell", "_law_well_here", "_law_again", "_law_none", "_law_rows", "_law_mine", "_law_k", "_law_rules", "_law_wishes", "_law_due", "_law_wished", "_law_j", "_law_three", "_law_last", "_law_row_here"]) (sc := defScope s_law) (by decide +kernel)) (fun _ _ _ _ _ => (pg_name (i := 7) sc_law.nd rfl (Or.inl rfl))) (fun _ _ _ _ _ => pts_nil) (fun _ _ _ _ _ => (pe_cmpR op_eq (pe_call (ok_law_draw T) (hr.mono (by decide)) (by rfl) T.d_law_draw.g T.d_law_draw.F.kp T.d_law_draw.b .nil pass0 (pa_cons (pv 2) (pa_cons pe_int pa_nil))) pe_int (nomark _))))
      (pss_cons (ps_set (i := 5) sc_law.nd rfl (.inr rfl) (pe_lst pa_nil))
      (pss_cons (ps_set (i := 6) sc_law.nd rfl (.inr rfl) (pe_lst pa_nil))
      (pss_cons (ps_for PassesOwn.never rfl (pi_range1 (by rfl) T.m_range (pa_cons pe_int pa_nil)) (pg_name (i := 7) sc_law.nd rfl (.inl rfl))
      (pss_cons (ps_expr (pe_bm PySem.F.plainAttrs_list PySem.F.slot_list_append PySem.F.type_list_append mt_append (pv 5) (pa_cons (pe_call (ok_law_row T) (hr.mono (by decide)) (by rfl) T.d_law_row.g T.d_law_row.F.kp T.d_law_row.b .nil pass0 (pa_cons (pv 2) (pa_cons pe_int (pa_cons pe_int (pa_cons (pv 5) pa_nil))))) pa_nil)))
      (pss_cons (ps_expr (pe_bm PySem.F.plainAttrs_list PySem.F.slot_list_append PySem.F.type_list_append mt_append (pv 6) (pa_cons (pe_call (ok_law_row T) (hr.mono (by decide)) (by rfl) T.d_law_row.g T.d_law_row.F.kp T.d_law_row.b .nil pass0 (pa_cons (pv 2) (pa_cons pe_int (pa_cons pe_int (pa_cons (pv 6) pa_nil))))) pa_nil)))
      (pss_one (ps_if (pt_val (pe_ix ix_list (pv 4) (pv 7) (fun _ _ => rfl)))
      (pss_one (ps_asg (pe_op op_cat (pe_lst (pa_cons pe_non pa_nil)) (pe_slice sl_list (pe_ix ix_list (pv 6) (pv 7) (fun _ _ => rfl)) (po_some pe_int) po_none)) (pg_sub (pv 6) (pv 7) set_list)))
      pss_nil)))))
      (Evl.pss_cut (ps_if (pt_val (pv 3))
      (pss_cons (ps_asg (pe_callTy call_list_of (by rfl) T.m_list (by decide +kernel) (pa_cons (pe_ix ix_list (pv 5) pe_int (fun _ _ => rfl)) pa_nil)) (pg_sub (pv 5) pe_int set_list))
      (pss_one (ps_asg (pe_callTy call_list_of (by rfl) T.m_list (by decide +kernel) (pa_cons (pe_ix ix_list (pv 6) pe_int (fun _ _ => rfl)) pa_nil)) (pg_sub (pv 6) pe_int set_list))))
      pss_nil)
      (pss_cons (ps_setLc (i := 8) (own := [("_law_row_here", 15)]) (g := gName 15) (tt := tYes) (by rfl) sc_law.nd rfl rfl (sw_true rfl rfl rfl (by decide +kernel)) (pi_list (pv 5)) (blkOk_by (own := [("_law_row_here", 15)]) (N := ["_law_script", "_law_cell", "_law_well_here", "_law_again", "_law_none", "_law_rows", "_law_mine", "_law_k", "_law_rules", "_law_wishes", "_law_due", "_law_wished", "_law_j", "_law_three", "_law_last", "_law_row_here"]) (sc := defScope s_law) (by decide +kernel)) (fun _ _ _ _ _ => (pg_name (i := 15) sc_law.nd rfl (Or.inl rfl))) (fun _ _ _ _ _ => pts_nil) (fun _ _ _ _ _ => (pe_call (ok_law_rule T) (hr.mono (by decide)) (by rfl) T.d_law_rule.g T.d_law_rule.F.kp T.d_law_rule.b .nil pass0 (pa_cons (pv 15) pa_nil))))
      (pss_cons (ps_setLc (i := 9) (own := [("_law_row_here", 15)]) (g := gName 15) (tt := tYes) (by rfl) sc_law.nd rfl rfl (sw_true rfl rfl rfl (by decide +kernel)) (pi_list (pv 6)) (blkOk_by (own := [("_law_row_here", 15)]) (N := ["_law_script", "_law_cell", "_law_well_here", "_law_again", "_law_none", "_law_rows", "_law_mine", "_law_k", "_law_rules", "_law_wishes", "_law_due", "_law_wished", "_law_j", "_law_three", "_law_last", "_law_row_here"]) (sc := defScope s_law) (by decide +kernel)) (fun _ _ _ _ _ => (pg_name (i := 15) sc_law.nd rfl (Or.inl rfl))) (fun _ _ _ _ _ => pts_nil) (fun _ _ _ _ _ => (pe_call (ok_law_wish T) (hr.mono (by decide)) (by rfl) T.d_law_wish.g T.d_law_wish.F.kp T.d_law_wish.b .nil pass0 (pa_cons (pv 15) pa_nil))))
      (pss_cons (ps_set (i := 10) sc_law.nd rfl (.inl rfl) (pe_lst pa_nil))
      (pss_cons (ps_set (i := 11) sc_law.nd rfl (.inl rfl) (pe_lst pa_nil))
      (pss_cons (ps_for PassesOwn.never rfl (pi_range1 (by rfl) T.m_range (pa_cons pe_int pa_nil)) (pg_name (i := 12) sc_law.nd rfl (.inr rfl))
      (pss_cons (ps_set (i := 10) sc_law.nd rfl (.inl rfl) (pe_op op_cat (pv 10) (pe_lc (own := [("_law_k", 7)]) (g := gName 7) (tt := tYes) (te := tCall spRB [] E0 (tCons (tOp (rIxL K) (tVar 5) (tVar 12)) (tCons (tOp (rIxL K) (tVar 5) (tVar 7)) tNil))) (by rfl) sc_law.nd (pi_range1 (by rfl) T.m_range (pa_cons pe_int pa_nil)) (blkOk_by (own := [("_law_k", 7)]) (N := ["_law_script", "_law_cell", "_law_well_here", "_law_again", "_law_none", "_law_rows", "_law_mine", "_law_k", "_law_rules", "_law_wishes", "_law_due", "_law_wished", "_law_j", "_law_three", "_law_last", "_law_row_here"]) (sc := defScope s_law) (by decide +kernel)) (fun _ _ _ _ _ => (pg_name (i := 7) sc_law.nd rfl (Or.inl rfl))) (fun _ _ _ _ _ => pts_nil) (fun _ _ _ _ _ => (pe_call (ok_law_rule_both T) (hr.mono (by decide)) (by rfl) T.d_law_rule_both.g T.d_law_rule_both.F.kp T.d_law_rule_both.b .nil pass0 (pa_cons (pe_ix ix_list (pv 5) (pv 12) (fun _ _ => rfl)) (pa_cons (pe_ix ix_list (pv 5) (pv 7) (fun _ _ => rfl)) pa_nil)))))))
      (pss_one (ps_set (i := 11) sc_law.nd rfl (.inl rfl) (pe_op op_cat (pv 11) (pe_lc (own := [("_law_k", 7)]) (g := gName 7) (tt := tYes) (te := tCall spWB [] E0 (tCons (tOp (rIxL K) (tVar 6) (tVar 12)) (tCons (tOp (rIxL K) (tVar 6) (tVar 7)) tNil))) (by rfl) sc_law.nd (pi_range1 (by rfl) T.m_range (pa_cons pe_int pa_nil)) (blkOk_by (own := [("_law_k", 7)]) (N := ["_law_script", "_law_cell", "_law_well_here", "_law_again", "_law_none", "_law_rows", "_law_mine", "_law_k", "_law_rules", "_law_wishes", "_law_due", "_law_wished", "_law_j", "_law_three", "_law_last", "_law_row_here"]) (sc := defScope s_law) (by decide +kernel)) (fun _ _ _ _ _ => (pg_name (i := 7) sc_law.nd rfl (Or.inl rfl))) (fun _ _ _ _ _ => pts_nil) (fun _ _ _ _ _ => (pe_call (ok_law_wish_both T) (hr.mono (by decide)) (by rfl) T.d_law_wish_both.g T.d_law_wish_both.F.kp T.d_law_wish_both.b .nil pass0 (pa_cons (pe_ix ix_list (pv 6) (pv 12) (fun _ _ => rfl)) (pa_cons (pe_ix ix_list (pv 6) (pv 7) (fun _ _ => rfl)) pa_nil))))))))))
      (pss_cons (ps_if (pt_mid (PW.pt (pw_or (pt_not (pt_val (pe_call (ok_law_pair T) (hr.mono (by decide)) (by rfl) T.d_law_pair.g T.d_law_pair.F.kp T.d_law_pair.b .nil pass0 (pa_cons (pv 8) (pa_cons (pv 5) (pa_cons (pv 10) pa_nil)))))) (pw_or1 (pt_not (pt_val (pe_call (ok_law_pairW T) (hr.mono (by decide)) (by rfl) T.d_law_pair.g T.d_law_pair.F.kp T.d_law_pair.b .nil pass0 (pa_cons (pv 9) (pa_cons (pv 6) (pa_cons (pv 11) pa_nil))))))))))
      (pss_one (ps_ret pe_bl))
      pss_nil)
      (pss_cons (ps_set (i := 13) sc_law.nd rfl (.inl rfl) (pe_meth (pe_meth (pe_ix ix_list (pv 8) pe_int (fun _ _ => rfl)) T.cl_Rule T.me_Rule_both (ok_Rule_both T) (hr.mono (by decide)) T.d_Rule_both.b .nil pass0 (pa_cons (pe_ix ix_list (pv 8) pe_int (fun _ _ => rfl)) pa_nil)) T.cl_Rule T.me_Rule_both (ok_Rule_both T) (hr.mono (by decide)) T.d_Rule_both.b .nil pass0 (pa_cons (pe_ix ix_list (pv 8) pe_int (fun _ _ => rfl)) pa_nil)))
      (pss_cons (ps_if (pt_not (pt_val (pe_call (ok_law_same T) (hr.mono (by decide)) (by rfl) T.d_law_same.g T.d_law_same.F.kp T.d_law_same.b .nil pass0 (pa_cons (pe_meth (pe_ix ix_list (pv 8) pe_int (fun _ _ => rfl)) T.cl_Rule T.me_Rule_both (ok_Rule_both T) (hr.mono (by decide)) T.d_Rule_both.b .nil pass0 (pa_cons (pe_meth (pe_ix ix_list (pv 8) pe_int (fun _ _ => rfl)) T.cl_Rule T.me_Rule_both (ok_Rule_both T) (hr.mono (by decide)) T.d_Rule_both.b .nil pass0 (pa_cons (pe_ix ix_list (pv 8) pe_int (fun _ _ => rfl)) pa_nil)) pa_nil)) (pa_cons (pe_call (ok_law_rule_both T) (hr.mono (by decide)) (by rfl) T.d_law_rule_both.g T.d_law_rule_both.F.kp T.d_law_rule_both.b .nil pass0 (pa_cons (pe_ix ix_list (pv 10) pe_int (fun _ _ => rfl)) (pa_cons (pe_ix ix_list (pv 5) pe_int (fun _ _ => rfl)) pa_nil))) pa_nil)))))
      (pss_one (ps_ret pe_bl))
      pss_nil)
      (pss_cons (ps_if (pt_not (pt_val (pe_call (ok_law_same T) (hr.mono (by decide)) (by rfl) T.d_law_same.g T.d_law_same.F.kp T.d_law_same.b .nil pass0 (pa_cons (pv 13) (pa_cons (pe_call (ok_law_rule_both T) (hr.mono (by decide)) (by rfl) T.d_law_rule_both.g T.d_law_rule_both.F.kp T.d_law_rule_both.b .nil pass0 (pa_cons (pe_ix ix_list (pv 5) pe_int (fun _ _ => rfl)) (pa_cons (pe_call (ok_law_rule_both T) (hr.mono (by decide)) (by rfl) T.d_law_rule_both.g T.d_law_rule_both.F.kp T.d_law_rule_both.b .nil pass0 (pa_cons (pe_ix ix_list (pv 5) pe_int (fun _ _ => rfl)) (pa_cons (pe_ix ix_list (pv 5) pe_int (fun _ _ => rfl)) pa_nil))) pa_nil))) pa_nil)))))
      (pss_one (ps_ret pe_bl))
      pss_nil)
      (pss_cons (ps_set (i := 14) sc_law.nd rfl (.inl rfl) (pe_meth (pe_ix ix_list (pv 9) pe_int (fun _ _ => rfl)) T.cl_Wish T.me_Wish_both (ok_Wish_both T) (hr.mono (by decide)) T.d_Wish_both.b .nil pass0 (pa_cons (pe_meth (pe_ix ix_list (pv 9) pe_int (fun _ _ => rfl)) T.cl_Wish T.me_Wish_both (ok_Wish_both T) (hr.mono (by decide)) T.d_Wish_both.b .nil pass0 (pa_cons (pe_ix ix_list (pv 9) pe_int (fun _ _ => rfl)) pa_nil)) pa_nil)))
      (pss_one (ps_if (pt_not (pt_val (pe_call (ok_law_same T) (hr.mono (by decide)) (by rfl) T.d_law_same.g T.d_law_same.F.kp T.d_law_same.b .nil pass0 (pa_cons (pv 14) (pa_cons (pe_call (ok_law_wish_both T) (hr.mono (by decide)) (by rfl) T.d_law_wish_both.g T.d_law_wish_both.F.kp T.d_law_wish_both.b .nil pass0 (pa_cons (pe_ix ix_list (pv 11) pe_int (fun _ _ => rfl)) (pa_cons (pe_ix ix_list (pv 6) pe_int (fun _ _ => rfl)) pa_nil))) pa_nil)))))
      (pss_one (ps_ret pe_bl))
      pss_nil))))))))))))))))))))
      (pss_one (ps_ret pe_bl))), ?_⟩
    obtain ⟨ms, em, lm⟩ := cutV_map V.int ns none (some 24)
    refine ⟨.ref sc, rfl, 24, rfl, sc, _, rfl, hS, fun p1 h1 => ⟨(by show 3 ≤ sizeLine; decide), fun p2 h2 => ?_⟩⟩
    refine ⟨p1, p2, _, _, rfl, rfl, (same_upd h2) _ _ upd_same, upd_same, by rw [em, List.length_map]; exact szl (by show ms.length + 3 ≤ _; omega), fun p3 h3 => ?_⟩
    have ec : cutV (ns.map V.int) none (some 24) ++ [.int 0, .int 7, .int 15] = (ms ++ [0, 7, 15]).map V.int := by
      rw [em, List.map_append]
      rfl
    rw [ec]
    refine ⟨p3, rfl, ⟨_, SqL.of upd_same⟩, for_list (K := K) (a := p3) (xs := (ms ++ [0, 7, 15]).map V.int) (fun i σ H' => H' p3 = some (.lst ((ms ++ [0, 7, 15]).map V.int)) ∧ ∃ y1 y2 y3 y4 y5 y6 y7 y8 y9 y10 y11 y12 y13 y14, σ = [some (.ref sc), y1, y2, y3, y4, y5, y6, y7, y8, y9, y10, y11, y12, y13, y14, none])
      ⟨upd_same, none, none, none, none, none, none, none, none, none, none, none, none, none, none, rfl⟩ (fun i σ H' _ pv => SqL.of pv.1) ?_ ?_⟩
    · rintro i x σ H0 hx ⟨e30, y1, y2, y3, y4, y5, y6, y7, y8, y9, y10, y11, y12, y13, y14, rfl⟩
      obtain ⟨n, rfl⟩ := int_at hx
      refine ⟨.int n, rfl, n, rfl, fun W wa wb wc hW => ?_⟩
      have hI0 : IsW (upd H0 W (W3 wa wb wc)) W := ⟨wa, wb, wc, upd_same⟩
      have nWp : p3 ≠ W := ne_of_none e30 hW
      have e31 : (upd H0 W (W3 wa wb wc)) p3 = some (.lst ((ms ++ [0, 7, 15]).map V.int)) := (same_upd hW) _ _ e30
      generalize upd H0 W (W3 wa wb wc) = Hw at *
      refine ⟨.ref W, rfl, W, 4, rfl, by decide, by decide, hI0, fun ra H1 _ _ x1 => ⟨rfl, ?_⟩⟩
      generalize decide (V.int ra = V.int 0) = ag
      refine ⟨3, rfl, by decide, by decide, fun D0 hD0 => ?_⟩
      have nWD : W ≠ D0 := x1.well.ne hD0
      refine lc_range (lo := 0) (n := 3) (fun i H' => ∃ bs : List Bool, bs.length = i ∧ Wx W H1 H' ∧ H' D0 = some (.lst (bs.map V.bl))) ⟨[], rfl, (Wx.refl x1.well).new hD0, upd_same⟩ ?_ ?_
      · rintro i H' hi ⟨bs, bn, x, eD⟩
        exact ⟨rfl, .ref W, rfl, W, 3, rfl, by decide, by decide, x.well, fun r H5 r0 r1 x5 => ⟨rfl, _, x5.keep D0 _ nWD.symm eD, by rw [List.length_map]; exact szlt (by omega), bs ++ [decide (V.int r = V.int 0)], by rw [List.length_append, bn]; rfl, (x.trans x5).mut hD0 nWD, by rw [upd_same, List.map_append]; rfl⟩⟩
      rintro H2 ⟨bs, bn, x2, eD0⟩
      have e32 := (x1.trans x2).keep _ _ nWp e31
      -- rows, mine
      refine ⟨Nat.zero_le _, fun R hR => ⟨Nat.zero_le _, fun M hM => ?_⟩⟩
      have q3 := (same_upd (o := .lst []) hR).trans (same_upd (o := .lst []) hM)
      have nRM : R ≠ M := ne_of_none upd_same hM
      have eR : (upd (upd H2 R (.lst [])) M (.lst [])) R = some (.lst []) := by rw [upd_ne nRM, upd_same]
      have eM : (upd (upd H2 R (.lst [])) M (.lst [])) M = some (.lst []) := upd_same
      have nWR : W ≠ R := x2.well.ne hR
      have nWM : W ≠ M := x2.well.ne ((same_upd (o := .lst []) hR).free hM)
      have nDR : D0 ≠ R := ne_of_none eD0 hR
      have nDM : D0 ≠ M := ne_of_none eD0 ((same_upd (o := .lst []) hR).free hM)
      have n3R : p3 ≠ R := ne_of_none e32 hR
      have n3M : p3 ≠ M := ne_of_none e32 ((same_upd (o := .lst []) hR).free hM)
      have hI3 : IsW (upd (upd H2 R (.lst [])) M (.lst [])) W := by
        obtain ⟨a, b, c, hw⟩ := x2.well
        exact ⟨a, b, c, q3 _ _ hw⟩
      have eD3 := q3 _ _ eD0
      have e33 := q3 _ _ e32
      generalize upd (upd H2 R (.lst [])) M (.lst []) = H3 at *
      have bW : W ∈ [W, R, M] := by simp
      have bR : R ∈ [W, R, M] := by simp
      have bM : M ∈ [W, R, M] := by simp
      have off : ∀ {f : Addr}, f ≠ W → f ≠ R → f ≠ M → f ∉ [W, R, M] := fun a b c z => by
        simp only [List.mem_cons, List.not_mem_nil, or_false] at z
        rcases z with z | z | z
        · exact a z
        · exact b z
        · exact c z
      refine ⟨3, rfl, by decide, by decide, for_range (lo := 0) (n := 3) (fun i σ H' => Kb [W, R, M] H3 H' ∧ ∃ (rs : List RuleR) (ws : List WishR) (y7 : Option V), Mk2 W R M H' i rs ws ∧ σ = [some (.ref sc), some (.int n), some (.ref W), some (.bl ag), some (.ref D0), some (.ref R), some (.ref M), y7, y8, y9, y10, y11, y12, y13, y14, none])
        ⟨fun _ _ _ e => e, [], [], y7, ⟨hI3, ⟨[], eR, .nil⟩, ⟨[], eM, .nil⟩, rfl, rfl⟩, rfl⟩ ?_ ?_⟩
      · rintro j σ H4 hj ⟨k4, rs, ws, y7', ⟨hI4, ⟨xs, eR4, hx4⟩, ⟨ys, eM4, hy4⟩, l1, l2⟩, rfl⟩
        have lx : xs.length = j := by rw [Paired.length hx4, List.length_map, l1]
        have ly : ys.length = j := by rw [Paired.length hy4, List.length_map, l2]
        refine ⟨.ref R, rfl, .inl ⟨rfl, _, SqL.of eR4⟩, .ref W, rfl, .ref R, rfl, W, R, 5, xs, rs.map vR, rfl, by decide, by decide, hI4, nWR.symm, eR4, rks_rows hx4, rks_ne bW hx4, good_vR rs, fun p n0 n1 n2 bs5 H5 np x5 ep lb => ?_⟩
        obtain ⟨c0, c1, c2, c3, c4, rfl⟩ := five lb
        have eR5 := x5.keep _ _ nWR.symm eR4
        have eM5 := x5.keep _ _ nWM.symm eM4
        have npR : p ≠ R := fun z => by rw [z, eR4] at np; cases np
        have npM : p ≠ M := fun z => by rw [z, eM4] at np; cases np
        have npW : p ≠ W := fun z => hI4.ne (by rw [← z]; exact np) rfl
        refine ⟨R, _, _, rfl, rfl, eR5, szlt (by omega), ?_⟩
        have k5 : Kb [W, R, M] H4 (upd H5 R (.lst (xs ++ [.ref p]))) := (Kb.wx x5 bW).set bR _
        have hx5 : Paired (RK [W, R, M] (upd H5 R (.lst (xs ++ [.ref p])))) (xs ++ [.ref p]) ((rs ++ [(⟨n0, n1, n2, c0, c1, c2, c3, c4⟩ : RuleR)]).map vR) := by
          rw [List.map_append]
          exact paired_app (rks_mono k5 hx4) (.cons ⟨p, rfl, by rw [upd_ne npR]; exact ep, off npW npR npM⟩ .nil)
        have hy5 := rks_mono k5 hy4
        have hI5 : IsW (upd H5 R (.lst (xs ++ [.ref p]))) W := by
          obtain ⟨a, b, c, hw⟩ := x5.well
          exact ⟨a, b, c, by rw [upd_ne nWR]; exact hw⟩
        have eR6 : (upd H5 R (.lst (xs ++ [.ref p]))) R = some (.lst (xs ++ [.ref p])) := upd_same
        have eM6 : (upd H5 R (.lst (xs ++ [.ref p]))) M = some (.lst ys) := by rw [upd_ne nRM.symm]; exact eM5
        generalize upd H5 R (.lst (xs ++ [.ref p])) = H6 at *
        refine ⟨.ref M, rfl, .inl ⟨rfl, _, SqL.of eM6⟩, .ref W, rfl, .ref M, rfl, W, M, 3, ys, ws.map vW, rfl, by decide, by decide, hI5, nWM.symm, eM6, rks_rows hy5, rks_ne bW hy5, good_vW ws, fun p' m0 m1 m2 bs3 H7 np' x7 ep' lb' => ?_⟩
        obtain ⟨d0, d1, d2, rfl⟩ := threeZ lb'
        have eR7 := x7.keep _ _ nWR.symm eR6
        have eM7 := x7.keep _ _ nWM.symm eM6
        have npR' : p' ≠ R := fun z => by rw [z, eR6] at np'; cases np'
        have npM' : p' ≠ M := fun z => by rw [z, eM6] at np'; cases np'
        have npW' : p' ≠ W := fun z => hI5.ne (by rw [← z]; exact np') rfl
        refine ⟨M, _, _, rfl, rfl, eM7, szlt (by omega), ?_⟩
        have k7 : Kb [W, R, M] H6 (upd H7 M (.lst (ys ++ [.ref p']))) := (Kb.wx x7 bW).set bM _
        have hx8 := rks_mono k7 hx5
        have hy8 : Paired (RK [W, R, M] (upd H7 M (.lst (ys ++ [.ref p'])))) (ys ++ [.ref p']) ((ws ++ [(⟨some m0, m1, m2, d0, d1, d2⟩ : WishR)]).map vW) := by
          rw [List.map_append]
          exact paired_app (rks_mono k7 hy5) (.cons ⟨p', rfl, by rw [upd_ne npM']; exact ep', off npW' npR' npM'⟩ .nil)
        have hI8 : IsW (upd H7 M (.lst (ys ++ [.ref p']))) W := by
          obtain ⟨a, b, c, hw⟩ := x7.well
          exact ⟨a, b, c, by rw [upd_ne nWM]; exact hw⟩
        have eR8 : (upd H7 M (.lst (ys ++ [.ref p']))) R = some (.lst (xs ++ [.ref p])) := by rw [upd_ne nRM]; exact eR7
        have eM8 : (upd H7 M (.lst (ys ++ [.ref p']))) M = some (.lst (ys ++ [.ref p'])) := upd_same
        have ep8 : (upd H7 M (.lst (ys ++ [.ref p']))) p' = some (.lst (vW ⟨some m0, m1, m2, d0, d1, d2⟩)) := by rw [upd_ne npM']; exact ep'
        generalize upd H7 M (.lst (ys ++ [.ref p'])) = H8 at *
        have k8 := (k4.trans k5).trans k7
        obtain ⟨nb, anb⟩ : ∃ nb : Bool, atI (bs.map V.bl) (0 + (j : Int)) = some (.bl nb) := by
          rw [Int.zero_add]
          exact ⟨bs[j]'(by omega), atI_nat (by rw [List.getElem?_map, List.getElem?_eq_getElem (by omega)]; rfl)⟩
        have eD8 := k8 _ _ (off nWD.symm nDR nDM) eD3
        refine ⟨.ref D0, rfl, _, rfl, D0, _, _, _, rfl, rfl, SqL.of eD8, anb, nb, rfl, ite2 (fun e => ?_) (fun e => ?_)⟩
        · have am : atI (ys ++ [V.ref p']) (0 + (j : Int)) = some (.ref p') := by
            rw [Int.zero_add]
            exact atI_nat (by rw [List.getElem?_append_right (by omega), show j - ys.length = 0 by omega]; rfl)
          refine ⟨(by show 1 ≤ sizeLine; decide), fun l hl => ?_⟩
          have s9 := same_upd (o := .lst [V.non]) hl
          refine ⟨.ref M, rfl, _, rfl, M, _, _, _, rfl, rfl, SqL.of (s9 _ _ eM8), am, 1, rfl, p', _, rfl, SqL.of (s9 _ _ ep8), fun c hc => ?_⟩
          have s10 := same_upd (o := .lst (cutV (vW ⟨some m0, m1, m2, d0, d1, d2⟩) (some 1) none)) hc
          refine ⟨l, c, _, _, rfl, rfl, s10 _ _ upd_same, upd_same, (by show 1 + 5 ≤ sizeLine; decide), fun cz hcz => ?_⟩
          have s11 := same_upd (o := .lst ([V.non] ++ cutV (vW ⟨some m0, m1, m2, d0, d1, d2⟩) (some 1) none)) hcz
          have t11 := (s9.trans s10).trans s11
          have ecz : (upd (upd (upd H8 l (.lst [V.non])) c (.lst (cutV (vW ⟨some m0, m1, m2, d0, d1, d2⟩) (some 1) none))) cz (.lst ([V.non] ++ cutV (vW ⟨some m0, m1, m2, d0, d1, d2⟩) (some 1) none))) cz = some (.lst (vW ⟨none, m1, m2, d0, d1, d2⟩)) := upd_same
          have nc2 : H8 cz = none := (s9.trans s10).free hcz
          generalize upd (upd (upd H8 l (.lst [V.non])) c (.lst (cutV (vW ⟨some m0, m1, m2, d0, d1, d2⟩) (some 1) none))) cz (.lst ([V.non] ++ cutV (vW ⟨some m0, m1, m2, d0, d1, d2⟩) (some 1) none)) = H9 at *
          have ncM : cz ≠ M := fun z => by rw [z, eM8] at nc2; cases nc2
          have ncR : cz ≠ R := fun z => by rw [z, eR8] at nc2; cases nc2
          have ncW : cz ≠ W := fun z => hI8.ne (by rw [← z]; exact nc2) rfl
          refine ⟨.ref M, rfl, _, rfl, M, _, _, j, rfl, rfl, t11 _ _ eM8, ?_, ?_⟩
          · rw [Int.zero_add, List.length_append]
            unfold ixN
            rw [if_pos (by omega), if_pos (by show (j : Int) < ((ys.length + 1 : Nat) : Int); omega)]
            rfl
          have k12 : Kb [W, R, M] H8 (upd H9 M (.lst ((ys ++ [V.ref p']).set j (V.ref cz)))) := (Kb.same t11).set bM _
          have es : ((ws ++ [(⟨some m0, m1, m2, d0, d1, d2⟩ : WishR)]).map vW).set j (vW ⟨none, m1, m2, d0, d1, d2⟩) = (ws ++ [(⟨none, m1, m2, d0, d1, d2⟩ : WishR)]).map vW := by
            rw [← l2, List.map_append, List.map_append, List.set_append_right _ _ (by rw [List.length_map]; exact Nat.le_refl _), List.length_map, Nat.sub_self]
            rfl
          refine ⟨k8.trans k12, rs ++ [⟨n0, n1, n2, c0, c1, c2, c3, c4⟩], ws ++ [⟨none, m1, m2, d0, d1, d2⟩], _, ⟨?_, ⟨_, ?_, rks_mono k12 hx8⟩, ⟨_, upd_same, ?_⟩, by rw [List.length_append, l1]; rfl, by rw [List.length_append, l2]; rfl⟩, rfl⟩
          · obtain ⟨a, b, c', hw⟩ := hI8
            exact ⟨a, b, c', by rw [upd_ne nWM]; exact t11 _ _ hw⟩
          · rw [upd_ne nRM]
            exact t11 _ _ eR8
          · rw [← es]
            exact paired_set ⟨cz, rfl, by rw [upd_ne ncM]; exact ecz, off ncW ncR ncM⟩ j (rks_mono k12 hy8)
        · exact ⟨k8, _, _, _, ⟨hI8, ⟨_, eR8, hx8⟩, ⟨_, eM8, hy8⟩, by rw [List.length_append, l1]; rfl, by rw [List.length_append, l2]; rfl⟩, rfl⟩
      · rintro σ H4 ⟨k4, rs0, ws0, y7', mk4, rfl⟩
        refine ⟨fun σ H' => ∃ (rs : List RuleR) (ws : List WishR), Kb [W, R, M] H3 H' ∧ Mk2 W R M H' 3 rs ws ∧ σ = [some (.ref sc), some (.int n), some (.ref W), some (.bl ag), some (.ref D0), some (.ref R), some (.ref M), y7', y8, y9, y10, y11, y12, y13, y14, none], ?_, ?_⟩
        · refine ⟨_, rfl, ag, rfl, ite2 (fun e => ?_) (fun e => ?_)⟩
          · obtain ⟨hI4, ⟨xs, eR4, hx4⟩, ⟨ys, eM4, hy4⟩, l1, l2⟩ := mk4
            obtain ⟨r0, r1, r2, rfl⟩ := threeL l1
            obtain ⟨w0, w1, w2, rfl⟩ := threeL l2
            obtain ⟨v0, v1, v2, rfl⟩ := threeL (l := xs) (Paired.length hx4)
            obtain ⟨u0, u1, u2, rfl⟩ := threeL (l := ys) (Paired.length hy4)
            obtain ⟨f, rfl, hf, nf⟩ : RK [W, R, M] H4 v0 (vR r0) := by cases hx4; assumption
            obtain ⟨g, rfl, hg, ng⟩ : RK [W, R, M] H4 u0 (vW w0) := by cases hy4; assumption
            have a0 : atI [V.ref f, v1, v2] 0 = some (.ref f) := rfl
            have b0 : atI [V.ref g, u1, u2] 0 = some (.ref g) := rfl
            refine ⟨.ref R, rfl, R, _, 0, _, rfl, rfl, SqL.of eR4, a0, f, _, rfl, .inl (SqL.of hf), fun c hc => ?_⟩
            have s5 := same_upd (o := .lst (vR r0)) hc
            have ec : (upd H4 c (.lst (vR r0))) c = some (.lst (vR r0)) := upd_same
            generalize upd H4 c (.lst (vR r0)) = H5 at *
            have ncR : c ≠ R := fun z => by rw [z, eR4] at hc; cases hc
            have ncM : c ≠ M := fun z => by rw [z, eM4] at hc; cases hc
            have ncW : c ≠ W := fun z => hI4.ne (by rw [← z]; exact hc) rfl
            refine ⟨.ref R, rfl, R, _, 2, 2, rfl, rfl, s5 _ _ eR4, rfl, ?_⟩
            have k6 : Kb [W, R, M] H4 (upd H5 R (.lst ([V.ref f, v1, v2].set 2 (.ref c)))) := (Kb.same s5).set bR _
            have hx6 := paired_set (R := RK [W, R, M] (upd H5 R (.lst ([V.ref f, v1, v2].set 2 (.ref c))))) (x := V.ref c) (y := vR r0) ⟨c, rfl, by rw [upd_ne ncR]; exact ec, off ncW ncR ncM⟩ 2 (rks_mono k6 hx4)
            have hy6 := rks_mono k6 hy4
            have eR6 : (upd H5 R (.lst ([V.ref f, v1, v2].set 2 (.ref c)))) R = some (.lst ([V.ref f, v1, v2].set 2 (.ref c))) := upd_same
            have eM6 : (upd H5 R (.lst ([V.ref f, v1, v2].set 2 (.ref c)))) M = some (.lst [V.ref g, u1, u2]) := by rw [upd_ne nRM.symm]; exact s5 _ _ eM4
            have hg6 := k6 _ _ ng hg
            have hI6 : IsW (upd H5 R (.lst ([V.ref f, v1, v2].set 2 (.ref c)))) W := by
              obtain ⟨a, b, d, hw⟩ := hI4
              exact ⟨a, b, d, by rw [upd_ne nWR]; exact s5 _ _ hw⟩
            generalize upd H5 R (.lst ([V.ref f, v1, v2].set 2 (.ref c))) = H6 at *
            refine ⟨.ref M, rfl, M, _, 0, _, rfl, rfl, SqL.of eM6, b0, g, _, rfl, .inl (SqL.of hg6), fun d hd => ?_⟩
            have s7 := same_upd (o := .lst (vW w0)) hd
            have ed : (upd H6 d (.lst (vW w0))) d = some (.lst (vW w0)) := upd_same
            generalize upd H6 d (.lst (vW w0)) = H7 at *
            have ndR : d ≠ R := fun z => by rw [z, eR6] at hd; cases hd
            have ndM : d ≠ M := fun z => by rw [z, eM6] at hd; cases hd
            have ndW : d ≠ W := fun z => hI6.ne (by rw [← z]; exact hd) rfl
            refine ⟨.ref M, rfl, M, _, 2, 2, rfl, rfl, s7 _ _ eM6, rfl, ?_⟩
            have k8 : Kb [W, R, M] H6 (upd H7 M (.lst ([V.ref g, u1, u2].set 2 (.ref d)))) := (Kb.same s7).set bM _
            refine ⟨[r0, r1, r0], [w0, w1, w0], (k4.trans k6).trans k8, ⟨?_, ⟨_, ?_, rks_mono k8 hx6⟩, ⟨_, upd_same, paired_set (x := V.ref d) (y := vW w0) ⟨d, rfl, by rw [upd_ne ndM]; exact ed, off ndW ndR ndM⟩ 2 (rks_mono k8 hy6)⟩, rfl, rfl⟩, rfl⟩
            · obtain ⟨a, b, z, hw⟩ := hI6
              exact ⟨a, b, z, by rw [upd_ne nWM]; exact s7 _ _ hw⟩
            · rw [upd_ne nRM]
              exact s7 _ _ eR6
          · exact ⟨rs0, ws0, k4, mk4, rfl⟩
        rintro σ H5 ⟨rs, ws, k5, ⟨hI5, ⟨xs, eR5, hx5⟩, ⟨ys, eM5, hy5⟩, l1, l2⟩, rfl⟩
        have e35 := k5 _ _ (off nWp n3R n3M) e33
        have lx : xs.length = 3 := by rw [Paired.length hx5, List.length_map, l1]
        have ly : ys.length = 3 := by rw [Paired.length hy5, List.length_map, l2]
        have hxr : Paired (fun v r => RowAt H5 v (vR r)) xs rs := paired_map vR (rks_rows hx5)
        have hyr : Paired (fun v r => RowAt H5 v (vW r)) ys ws := paired_map vW (rks_rows hy5)
        clear hx5 hy5 k5
        refine ⟨.ref R, rfl, R, rfl, ⟨_, SqL.of eR5⟩, fun D hD => ?_⟩
        refine lc_list (K := K) (a := R) (xs := xs) (fun i H' => Same H5 H' ∧ ∃ us, H' D = some (.lst us) ∧ us.length = i ∧ Paired (RV T.C_Rule H') us (rs.take i)) ⟨same_upd hD, [], upd_same, rfl, .nil⟩ (fun i H' _ pv => SqL.of (pv.1 _ _ eR5)) ?_ ?_
        · rintro i v H' hi ⟨s, us, eD, lu, hu⟩
          obtain ⟨r, hr', f, rfl, hf⟩ := paired_at hxr hi
          have hil : i < xs.length := (List.getElem?_eq_some_iff.mp hi).1
          refine ⟨rfl, .ref f, rfl, f, r, rfl, s _ _ hf, fun x H'' nx s' hxx => ⟨us, s' _ _ eD, szlt (by omega), same_mut (s.trans s') hD, us ++ [.ref x], upd_same, by rw [List.length_append, lu]; rfl, ?_⟩⟩
          rw [take_id hr']
          exact rv_upd (s' _ _ eD) (paired_app (rv_mono s' hu) (.cons ⟨x, rfl, hxx⟩ .nil))
        rintro H6 ⟨sH6, usH6, eH6, luH6, huH6⟩
        rw [show xs.length = 3 by omega, List.take_of_length_le (Nat.le_of_eq l1)] at huH6
        refine ⟨.ref M, rfl, M, rfl, ⟨_, SqL.of (sH6 _ _ eM5)⟩, fun E hE => ?_⟩
        refine lc_list (K := K) (a := M) (xs := ys) (fun i H' => Same H6 H' ∧ ∃ us, H' E = some (.lst us) ∧ us.length = i ∧ Paired (WV T.C_Wish H') us (ws.take i)) ⟨same_upd hE, [], upd_same, rfl, .nil⟩ (fun i H' _ pv => SqL.of (pv.1 _ _ (sH6 _ _ eM5))) ?_ ?_
        · rintro i v H' hi ⟨s, us, eD, lu, hu⟩
          obtain ⟨r, hr', f, rfl, hf⟩ := paired_at (rowA_mono sH6 hyr) hi
          have hil : i < ys.length := (List.getElem?_eq_some_iff.mp hi).1
          refine ⟨rfl, .ref f, rfl, f, r, rfl, s _ _ hf, fun x H'' nx s' hxx => ⟨us, s' _ _ eD, szlt (by omega), same_mut (s.trans s') hE, us ++ [.ref x], upd_same, by rw [List.length_append, lu]; rfl, ?_⟩⟩
          rw [take_id hr']
          exact wv_upd (s' _ _ eD) (paired_app (wv_mono s' hu) (.cons ⟨x, rfl, hxx⟩ .nil))
        rintro H7 ⟨sH7, usH7, eH7, luH7, huH7⟩
        rw [show ys.length = 3 by omega, List.take_of_length_le (Nat.le_of_eq l2)] at huH7
        have t7 := sH6.trans sH7
        have huR := rv_mono sH7 huH6
        refine ⟨Nat.zero_le _, fun U hU => ⟨Nat.zero_le _, fun Z hZ => ?_⟩⟩
        have q8 := (same_upd (o := .lst []) hU).trans (same_upd (o := .lst []) hZ)
        have nUZ : U ≠ Z := ne_of_none upd_same hZ
        have eU : (upd (upd H7 U (.lst [])) Z (.lst [])) U = some (.lst []) := by rw [upd_ne nUZ, upd_same]
        have eZ : (upd (upd H7 U (.lst [])) Z (.lst [])) Z = some (.lst []) := upd_same
        generalize upd (upd H7 U (.lst [])) Z (.lst []) = H8 at *
        refine ⟨3, rfl, by decide, by decide, for_range (lo := 0) (n := 3) (fun i σ H' => Same H7 H' ∧ ∃ (U Z : Addr) (us zs : List V) (y7 y12 : Option V), H' U = some (.lst us) ∧ us.length = 3 * i ∧ Paired (fun v r => RowAt H' v (vR r)) us ((rs.take i).flatMap fun r => rs.map fun s => bothR r s) ∧ H' Z = some (.lst zs) ∧ zs.length = 3 * i ∧ Paired (fun v r => RowAt H' v (vW r)) zs ((ws.take i).flatMap fun r => ws.map fun s => bothW r s) ∧ σ = [some (.ref sc), some (.int n), some (.ref W), some (.bl ag), some (.ref D0), some (.ref R), some (.ref M), y7, some (.ref D), some (.ref E), some (.ref U), some (.ref Z), y12, y13, y14, none])
          ⟨q8, U, Z, [], [], y7', y12, eU, rfl, .nil, eZ, rfl, .nil, rfl⟩ ?_ ?_⟩
        · rintro j σ H9 hj ⟨s9, U, Z, us, zs, z7, z12, eU, lu, hu, eZ, lz, hz, rfl⟩
          have t9 := t7.trans s9
          obtain ⟨r, hr'⟩ := three_of (l := rs) l1 hj
          obtain ⟨vj, hvj, fj, rfl, hfj⟩ := paired_to hxr hr'
          have aj : atI xs (0 + (j : Int)) = some (.ref fj) := by rw [Int.zero_add]; exact atI_nat hvj
          obtain ⟨w', hw'⟩ := three_of (l := ws) l2 hj
          obtain ⟨uj, huj, gj, rfl, hgj⟩ := paired_to hyr hw'
          have bj : atI ys (0 + (j : Int)) = some (.ref gj) := by rw [Int.zero_add]; exact atI_nat huj
          refine ⟨.ref U, rfl, 3, rfl, by decide, by decide, fun F hF => ?_⟩
          refine lc_range (lo := 0) (n := 3) (fun k H' => Same H9 H' ∧ ∃ qs, H' F = some (.lst qs) ∧ qs.length = k ∧ Paired (fun v x => RowN F H' v (vR x)) qs ((rs.take k).map fun s => bothR r s)) ⟨same_upd hF, [], upd_same, rfl, .nil⟩ ?_ ?_
          · rintro k H' hk ⟨s, qs, eF, lq, hq⟩
            have t := t9.trans s
            obtain ⟨rk, hrk⟩ := three_of (l := rs) l1 hk
            obtain ⟨vk, hvk, fk, rfl, hfk⟩ := paired_to hxr hrk
            have ak : atI xs (0 + (k : Int)) = some (.ref fk) := by rw [Int.zero_add]; exact atI_nat hvk
            refine ⟨rfl, .ref R, rfl, _, rfl, R, _, _, _, rfl, rfl, SqL.of (t _ _ eR5), aj, .ref R, rfl, _, rfl, R, _, _, _, rfl, rfl, SqL.of (t _ _ eR5), ak, fj, fk, r, rk, rfl, t _ _ hfj, t _ _ hfk, fun p H'' np s' ep => ⟨qs, s' _ _ eF, szlt (by omega), same_mut (s.trans s') hF, qs ++ [.ref p], upd_same, by rw [List.length_append, lq]; rfl, ?_⟩⟩
            have npF : p ≠ F := fun z => by rw [z, eF] at np; cases np
            rw [take_id hrk, List.map_append]
            exact paired_app (rowN_step s' hq) (.cons ⟨p, rfl, by rw [upd_ne npF]; exact ep, npF⟩ .nil)
          rintro H10 ⟨s10, qs, eF, lq, hq⟩
          rw [List.take_of_length_le (Nat.le_of_eq l1)] at hq
          refine ⟨U, F, _, _, rfl, rfl, s10 _ _ eU, eF, szl (by omega), fun U' hU' => ?_⟩
          have s11 := s10.trans (same_upd (o := .lst (us ++ qs)) hU')
          have eU' : (upd H10 U' (.lst (us ++ qs))) U' = some (.lst (us ++ qs)) := upd_same
          have hu' := paired_app (rowA_mono s11 hu) (rowA_mono (same_upd (o := .lst (us ++ qs)) hU') (rowN_at hq))
          rw [← flat_take (fun r => rs.map fun s => bothR r s) hr'] at hu'
          have lu' : (us ++ qs).length = 3 * (j + 1) := by rw [List.length_append]; omega
          generalize us ++ qs = us' at *
          generalize upd H10 U' (.lst us') = H11 at *
          have t11 := t9.trans s11
          have eZ11 := s11 _ _ eZ
          refine ⟨.ref Z, rfl, 3, rfl, by decide, by decide, fun G hG => ?_⟩
          refine lc_range (lo := 0) (n := 3) (fun k H' => Same H11 H' ∧ ∃ qs, H' G = some (.lst qs) ∧ qs.length = k ∧ Paired (fun v x => RowN G H' v (vW x)) qs ((ws.take k).map fun s => bothW w' s)) ⟨same_upd hG, [], upd_same, rfl, .nil⟩ ?_ ?_
          · rintro k H' hk ⟨s, qs, eG, lq, hq⟩
            have t := t11.trans s
            obtain ⟨rk, hrk⟩ := three_of (l := ws) l2 hk
            obtain ⟨vk, hvk, fk, rfl, hfk⟩ := paired_to hyr hrk
            have ak : atI ys (0 + (k : Int)) = some (.ref fk) := by rw [Int.zero_add]; exact atI_nat hvk
            refine ⟨rfl, .ref M, rfl, _, rfl, M, _, _, _, rfl, rfl, SqL.of (t _ _ eM5), bj, .ref M, rfl, _, rfl, M, _, _, _, rfl, rfl, SqL.of (t _ _ eM5), ak, gj, fk, w', rk, rfl, t _ _ hgj, t _ _ hfk, fun p H'' np s' ep => ⟨qs, s' _ _ eG, szlt (by omega), same_mut (s.trans s') hG, qs ++ [.ref p], upd_same, by rw [List.length_append, lq]; rfl, ?_⟩⟩
            have npG : p ≠ G := fun z => by rw [z, eG] at np; cases np
            rw [take_id hrk, List.map_append]
            exact paired_app (rowN_step s' hq) (.cons ⟨p, rfl, by rw [upd_ne npG]; exact ep, npG⟩ .nil)
          rintro H12 ⟨s12, ps, eG, lp, hp⟩
          rw [List.take_of_length_le (Nat.le_of_eq l2)] at hp
          refine ⟨Z, G, _, _, rfl, rfl, s12 _ _ eZ11, eG, szl (by omega), fun Z' hZ' => ?_⟩
          have s13 := s12.trans (same_upd (o := .lst (zs ++ ps)) hZ')
          have hz' := paired_app (rowA_mono (s11.trans s13) hz) (rowA_mono (same_upd (o := .lst (zs ++ ps)) hZ') (rowN_at hp))
          rw [← flat_take (fun r => ws.map fun s => bothW r s) hw'] at hz'
          exact ⟨(s9.trans s11).trans s13, U', Z', _, _, _, _, s13 _ _ eU', lu', rowA_mono s13 hu', upd_same, by rw [List.length_append]; omega, hz', rfl⟩
        · rintro σ H9 ⟨s9, U, Z, us, zs, z7, z12, eU, lu, hu, eZ, lz, hz, rfl⟩
          rw [List.take_of_length_le (Nat.le_of_eq l1)] at hu
          rw [List.take_of_length_le (Nat.le_of_eq l2)] at hz
          have t9 := t7.trans s9
          obtain ⟨r0, r1, r2, rfl⟩ := threeL l1
          obtain ⟨w0, w1, w2, rfl⟩ := threeL l2
          have eD9 := s9 _ _ (sH7 _ _ eH6)
          have eE9 := s9 _ _ eH7
          have hR9 := rv_mono s9 huR
          have hW9 := wv_mono s9 huH7
          refine ⟨fun b H' => b = false ∧ Same H9 H', ?_, fun b H' hb => ?_⟩
          · exact ⟨.ref D, rfl, .ref R, rfl, .ref U, rfl, D, R, U, _, _, _, _, rfl, eD9, hR9, t9 _ _ eR5, rowA_mono t9 hxr, eU, hu, rfl, fun H10 s10 => ⟨true, rfl, .ref E, rfl, .ref M, rfl, .ref Z, rfl, E, M, Z, _, _, _, _, rfl, s10 _ _ eE9, wv_mono s10 hW9, (t9.trans s10) _ _ eM5, rowA_mono (t9.trans s10) hyr, s10 _ _ eZ, rowA_mono s10 hz, rfl, fun H11 s11 => ⟨true, rfl, rfl, s10.trans s11⟩⟩⟩
          obtain ⟨rfl, s10⟩ := hb
          obtain ⟨v0, hv0, x0, rfl, o0⟩ := paired_to (i := 0) (y := r0) hR9 rfl
          obtain ⟨v1, hv1, x1, rfl, o1⟩ := paired_to (i := 1) (y := r1) hR9 rfl
          obtain ⟨v2, hv2, x2, rfl, o2⟩ := paired_to (i := 2) (y := r2) hR9 rfl
          obtain ⟨v0, gv0, k0, rfl, c0⟩ := paired_to (i := 0) (y := w0) hW9 rfl
          obtain ⟨v1, gv1, k1, rfl, c1⟩ := paired_to (i := 1) (y := w1) hW9 rfl
          obtain ⟨v2, gv2, k2, rfl, c2⟩ := paired_to (i := 2) (y := w2) hW9 rfl
          obtain ⟨v0, fv0, f0, rfl, b0⟩ := paired_to (i := 0) (y := r0) hxr rfl
          obtain ⟨v1, fv1, f1, rfl, b1⟩ := paired_to (i := 1) (y := r1) hxr rfl
          obtain ⟨v2, fv2, f2, rfl, b2⟩ := paired_to (i := 2) (y := r2) hxr rfl
          obtain ⟨v2, jv2, j2, rfl, i2⟩ := paired_to (i := 2) (y := w2) hyr rfl
          obtain ⟨v1, uv1, u1, rfl, d1⟩ := paired_to (i := 1) (y := bothR r0 r1) hu rfl
          obtain ⟨v1, zv1, z1, rfl, e1⟩ := paired_to (i := 1) (y := bothW w0 w1) hz rfl
          have o0 := o0.mono s10
          have o1 := o1.mono s10
          have o2 := o2.mono s10
          have c0 := c0.mono s10
          have c1 := c1.mono s10
          have c2 := c2.mono s10
          have t10 := t9.trans s10
          have b0 := t10 _ _ b0
          have b1 := t10 _ _ b1
          have b2 := t10 _ _ b2
          have i2 := t10 _ _ i2
          have d1 := s10 _ _ d1
          have e1 := s10 _ _ e1
          have eD := s10 _ _ eD9
          have eE := s10 _ _ eE9
          have eR := t10 _ _ eR5
          have eM := t10 _ _ eM5
          have eU := s10 _ _ eU
          have eZ := s10 _ _ eZ
          have e3 := t10 _ _ e35
          have hv0 := atI_nat hv0
          have hv1 := atI_nat hv1
          have hv2 := atI_nat hv2
          have gv0 := atI_nat gv0
          have gv1 := atI_nat gv1
          have gv2 := atI_nat gv2
          have fv0 := atI_nat fv0
          have fv1 := atI_nat fv1
          have fv2 := atI_nat fv2
          have jv2 := atI_nat jv2
          have uv1 := atI_nat uv1
          have zv1 := atI_nat zv1
          clear hR9 hW9 eD9 eE9 hu hz hxr hyr huR huH7 huH6
          -- three
          obtain ⟨dx, hxx⟩ := id o0
          refine ⟨.ref D, rfl, D, _, 0, _, rfl, rfl, SqL.of eD, hv0, x0, dx, _, rfl, hxx, fR_both _, .ref D, rfl, D, _, 1, _, rfl, rfl, SqL.of eD, hv1, x0, x1, r0, r1, rfl, o0, o1, fun a1 HA na sA oA => ?_⟩
          obtain ⟨dx, hxx⟩ := id oA
          refine ⟨a1, dx, _, rfl, hxx, fR_both _, .ref D, rfl, D, _, 2, _, rfl, rfl, SqL.of (sA _ _ eD), hv2, a1, x2, _, r2, rfl, oA, o2.mono sA, fun a2 HB nb sB oB => ?_⟩
          have tB := sA.trans sB
          have o0 := o0.mono tB
          have o1 := o1.mono tB
          have o2 := o2.mono tB
          have c0 := c0.mono tB
          have c1 := c1.mono tB
          have c2 := c2.mono tB
          have b0 := tB _ _ b0
          have b1 := tB _ _ b1
          have b2 := tB _ _ b2
          have i2 := tB _ _ i2
          have d1 := tB _ _ d1
          have e1 := tB _ _ e1
          have eD := tB _ _ eD
          have eE := tB _ _ eE
          have eR := tB _ _ eR
          have eM := tB _ _ eM
          have eU := tB _ _ eU
          have eZ := tB _ _ eZ
          have e3 := tB _ _ e3
          -- the first test
          obtain ⟨dx2, hx2⟩ := id o2
          obtain ⟨dx0, hx0⟩ := id o0
          refine ⟨.ref D, rfl, D, _, 2, _, rfl, rfl, SqL.of eD, hv2, x2, dx2, _, rfl, hx2, fR_both _, .ref D, rfl, D, _, 0, _, rfl, rfl, SqL.of eD, hv0, x0, dx0, _, rfl, hx0, fR_both _, .ref D, rfl, D, _, 1, _, rfl, rfl, SqL.of eD, hv1, x0, x1, r0, r1, rfl, o0, o1, fun a3 HC nc sC oC => ?_⟩
          refine ⟨x2, a3, r2, _, rfl, o2.mono sC, oC, fun a4 HD nd sD oD => ?_⟩
          have tD := sC.trans sD
          refine ⟨.ref U, rfl, U, _, 1, _, rfl, rfl, SqL.of (tD _ _ eU), uv1, .ref R, rfl, R, _, 2, _, rfl, rfl, SqL.of (tD _ _ eR), fv2, u1, f2, _, r2, rfl, tD _ _ d1, tD _ _ b2, fun p HE np sE ep => ?_⟩
          rw [bothR_comm] at ep
          refine ⟨a4, p, rfl, .inl ⟨_, oD.mono sE, ep⟩, fun HF sF => ⟨true, rfl, ?_⟩⟩
          have tF := (tD.trans sE).trans sF
          have c0 := c0.mono tF
          have c1 := c1.mono tF
          have c2 := c2.mono tF
          have b0 := tF _ _ b0
          have b1 := tF _ _ b1
          have b2 := tF _ _ b2
          have i2 := tF _ _ i2
          have e1 := tF _ _ e1
          have eE := tF _ _ eE
          have eR := tF _ _ eR
          have eM := tF _ _ eM
          have eZ := tF _ _ eZ
          have e3 := tF _ _ e3
          have oB := oB.mono tF
          -- the second test
          refine ⟨.ref a2, rfl, .ref R, rfl, R, _, 0, _, rfl, rfl, SqL.of eR, fv0, .ref R, rfl, R, _, 2, _, rfl, rfl, SqL.of eR, fv2, .ref R, rfl, R, _, 1, _, rfl, rfl, SqL.of eR, fv1, f2, f1, r2, r1, rfl, b2, b1, fun p' HG np' sG ep' => ?_⟩
          refine ⟨f0, p', r0, _, rfl, sG _ _ b0, ep', fun p'' HI np'' sI ep'' => ?_⟩
          rw [bothR_comm r2, ← bothR_assoc] at ep''
          refine ⟨a2, p'', rfl, .inl ⟨_, oB.mono (sG.trans sI), ep''⟩, fun HJ sJ => ⟨true, rfl, ?_⟩⟩
          have tJ := (sG.trans sI).trans sJ
          have c0 := c0.mono tJ
          have c1 := c1.mono tJ
          have c2 := c2.mono tJ
          have i2 := tJ _ _ i2
          have e1 := tJ _ _ e1
          have eE := tJ _ _ eE
          have eM := tJ _ _ eM
          have eZ := tJ _ _ eZ
          have e3 := tJ _ _ e3
          -- the last
          obtain ⟨dk2, hk2⟩ := id c2
          obtain ⟨dk1, hk1⟩ := id c1
          refine ⟨.ref E, rfl, E, _, 2, _, rfl, rfl, SqL.of eE, gv2, k2, dk2, _, rfl, hk2, fW_both _, .ref E, rfl, E, _, 1, _, rfl, rfl, SqL.of eE, gv1, k1, dk1, _, rfl, hk1, fW_both _, .ref E, rfl, E, _, 0, _, rfl, rfl, SqL.of eE, gv0, k1, k0, w1, w0, rfl, c1, c0, fun a5 HK nk sK oK => ?_⟩
          refine ⟨k2, a5, w2, _, rfl, c2.mono sK, oK, fun a6 HL nl sL oL => ?_⟩
          have tL := sK.trans sL
          refine ⟨.ref a6, rfl, .ref Z, rfl, Z, _, 1, _, rfl, rfl, SqL.of (tL _ _ eZ), zv1, .ref M, rfl, M, _, 2, _, rfl, rfl, SqL.of (tL _ _ eM), jv2, z1, j2, _, w2, rfl, tL _ _ e1, tL _ _ i2, fun p3' HN np3 sN ep3 => ?_⟩
          rw [bothW_comm _ w2, bothW_comm w0] at ep3
          refine ⟨a6, p3', rfl, .inr ⟨_, oL.mono sN, ep3⟩, fun HO sO => ⟨true, rfl, ?_⟩⟩
          exact ⟨((tL.trans sN).trans sO) _ _ e3, _, _, _, _, _, _, _, _, _, _, _, _, _, _, rfl⟩
    · rintro σ H1 ⟨e3, y1, y2, y3, y4, y5, y6, y7, y8, y9, y10, y11, y12, y13, y14, rfl⟩
      exact q _
end
end My
namespace My
open PySem PySem.Spec PyProof.Rows L2 TL
theorem all_mk {l : PySem.W.OpenLaw} {w : World} {K : PySem.W.Frag} {h : Heap} {mg : Str → Option Value} {fa : Addr} (X : K.In h) (G : h.Ns mainGlobals mg) (hfa : mg "law" = some (.ref fa))
    {C_Rule : Addr} (aC_Rule : PySem.W.nsIn K mainGlobals "Rule" = some (some (.ref C_Rule))) (pg_Rule : PySem.W.plainGet K C_Rule Str.empty = true) (hd_Rule : PySem.W.hasDictIn K C_Rule = true) (po_Rule : PySem.W.plainOver K C_Rule = true) (sa_Rule : PySem.W.findIn K (.ref C_Rule) "__setattr__" = some (some (.builtin "object.__setattr__")))
    (mk_Rule : PySem.W.makesIn K C_Rule = true) (kc_Rule : PySem.W.keepIn K (.ref C_Rule) = true)
    (n_Rule_keep : PySem.W.findIn K (.ref C_Rule) "keep" = some none)
    (n_Rule_worn : PySem.W.findIn K (.ref C_Rule) "worn" = some none)
    (n_Rule_alone : PySem.W.findIn K (.ref C_Rule) "alone" = some none)
    (n_Rule_anew : PySem.W.findIn K (.ref C_Rule) "anew" = some none)
    (n_Rule_own : PySem.W.findIn K (.ref C_Rule) "own" = some none)
    (n_Rule_common : PySem.W.findIn K (.ref C_Rule) "common" = some none)
    (n_Rule_never : PySem.W.findIn K (.ref C_Rule) "never" = some none)
    (n_Rule_strict : PySem.W.findIn K (.ref C_Rule) "strict" = some none)
    {C_Wish : Addr} (aC_Wish : PySem.W.nsIn K mainGlobals "Wish" = some (some (.ref C_Wish))) (pg_Wish : PySem.W.plainGet K C_Wish Str.empty = true) (hd_Wish : PySem.W.hasDictIn K C_Wish = true) (po_Wish : PySem.W.plainOver K C_Wish = true) (sa_Wish : PySem.W.findIn K (.ref C_Wish) "__setattr__" = some (some (.builtin "object.__setattr__")))
    (mk_Wish : PySem.W.makesIn K C_Wish = true) (kc_Wish : PySem.W.keepIn K (.ref C_Wish) = true)
    (n_Wish_atmost : PySem.W.findIn K (.ref C_Wish) "atmost" = some none)
    (n_Wish_left : PySem.W.findIn K (.ref C_Wish) "left" = some none)
    (n_Wish_worn : PySem.W.findIn K (.ref C_Wish) "worn" = some none)
    (n_Wish_anew : PySem.W.findIn K (.ref C_Wish) "anew" = some none)
    (n_Wish_kept : PySem.W.findIn K (.ref C_Wish) "kept" = some none)
    (n_Wish_firm : PySem.W.findIn K (.ref C_Wish) "firm" = some none)
    (ha_Rule : PySem.W.findIn K (.ref C_Rule) "__class__" = some (some (.builtin "object.__class__"))) (hm_Rule : PySem.W.mroIn K C_Rule (.type "object") = some true)
    (ha_Wish : PySem.W.findIn K (.ref C_Wish) "__class__" = some (some (.builtin "object.__class__"))) (hm_Wish : PySem.W.mroIn K C_Wish (.type "object") = some true)
    (hn_cls : PySem.W.specialIn K (.builtin "object.__class__") "__get__" = some (some (.builtin "getset_descriptor.__get__"))) (htk_cls : PySem.W.takesIn K (.builtin "object.__class__") = some true)
    (ki_Rule_Rule : PySem.W.kitOne K (.ref C_Rule) (.ref C_Rule) = some true)
    (ki_Rule_Wish : PySem.W.kitOne K (.ref C_Rule) (.ref C_Wish) = some false)
    (ki_Wish_Rule : PySem.W.kitOne K (.ref C_Wish) (.ref C_Rule) = some false)
    (ki_Wish_Wish : PySem.W.kitOne K (.ref C_Wish) (.ref C_Wish) = some true)
    {f0 : Addr} {od0 an0 : Option Addr} {sl0 : Array (Option Value)} {oc0 kV0 dc0 pm0 cd0 ct0 : Value}
    (a0 : PySem.W.nsIn K mainGlobals "lesser" = some (some (.ref f0)))
    (l0 : K.lookup f0 = some ⟨oc0, od0, .func (PySem.W.fnOf "lesser" "lesser" (defArgs s_lesser) (defBody s_lesser) (defScope s_lesser) .none kV0 dc0 pm0 an0 cd0 ct0), sl0⟩) (c0 : PySem.W.codeIn K cd0 "lesser" = true) (k0 : PySem.W.keepIn K (.ref f0) = true)
    {f1 : Addr} {od1 an1 : Option Addr} {sl1 : Array (Option Value)} {oc1 kV1 dc1 pm1 cd1 ct1 : Value}
    (a1 : PySem.W.nsIn K mainGlobals "_law_well" = some (some (.ref f1)))
    (l1 : K.lookup f1 = some ⟨oc1, od1, .func (PySem.W.fnOf "_law_well" "_law_well" (defArgs s_law_well) (defBody s_law_well) (defScope s_law_well) .none kV1 dc1 pm1 an1 cd1 ct1), sl1⟩) (c1 : PySem.W.codeIn K cd1 "_law_well" = true) (k1 : PySem.W.keepIn K (.ref f1) = true)
    {f2 : Addr} {od2 an2 : Option Addr} {sl2 : Array (Option Value)} {oc2 kV2 dc2 pm2 cd2 ct2 : Value}
    (a2 : PySem.W.nsIn K mainGlobals "_law_draw" = some (some (.ref f2)))
    (l2 : K.lookup f2 = some ⟨oc2, od2, .func (PySem.W.fnOf "_law_draw" "_law_draw" (defArgs s_law_draw) (defBody s_law_draw) (defScope s_law_draw) .none kV2 dc2 pm2 an2 cd2 ct2), sl2⟩) (c2 : PySem.W.codeIn K cd2 "_law_draw" = true) (k2 : PySem.W.keepIn K (.ref f2) = true)
    {f3 : Addr} {od3 an3 : Option Addr} {sl3 : Array (Option Value)} {oc3 kV3 dc3 pm3 cd3 ct3 : Value}
    (a3 : PySem.W.nsIn K mainGlobals "_law_number" = some (some (.ref f3)))
    (l3 : K.lookup f3 = some ⟨oc3, od3, .func (PySem.W.fnOf "_law_number" "_law_number" (defArgs s_law_number) (defBody s_law_number) (defScope s_law_number) .none kV3 dc3 pm3 an3 cd3 ct3), sl3⟩) (c3 : PySem.W.codeIn K cd3 "_law_number" = true) (k3 : PySem.W.keepIn K (.ref f3) = true)
    {f4 : Addr} {od4 an4 : Option Addr} {sl4 : Array (Option Value)} {oc4 kV4 dc4 pm4 cd4 ct4 : Value}
    (a4 : PySem.W.nsIn K mainGlobals "_law_truth" = some (some (.ref f4)))
    (l4 : K.lookup f4 = some ⟨oc4, od4, .func (PySem.W.fnOf "_law_truth" "_law_truth" (defArgs s_law_truth) (defBody s_law_truth) (defScope s_law_truth) .none kV4 dc4 pm4 an4 cd4 ct4), sl4⟩) (c4 : PySem.W.codeIn K cd4 "_law_truth" = true) (k4 : PySem.W.keepIn K (.ref f4) = true)
    {f5 : Addr} {od5 an5 : Option Addr} {sl5 : Array (Option Value)} {oc5 kV5 dc5 pm5 cd5 ct5 : Value}
    (a5 : PySem.W.nsIn K mainGlobals "_law_row" = some (some (.ref f5)))
    (l5 : K.lookup f5 = some ⟨oc5, od5, .func (PySem.W.fnOf "_law_row" "_law_row" (defArgs s_law_row) (defBody s_law_row) (defScope s_law_row) .none kV5 dc5 pm5 an5 cd5 ct5), sl5⟩) (c5 : PySem.W.codeIn K cd5 "_law_row" = true) (k5 : PySem.W.keepIn K (.ref f5) = true)
    {f6 : Addr} {od6 an6 : Option Addr} {sl6 : Array (Option Value)} {oc6 kV6 dc6 pm6 cd6 ct6 : Value}
    (a6 : PySem.W.nsIn K mainGlobals "_law_rule" = some (some (.ref f6)))
    (l6 : K.lookup f6 = some ⟨oc6, od6, .func (PySem.W.fnOf "_law_rule" "_law_rule" (defArgs s_law_rule) (defBody s_law_rule) (defScope s_law_rule) .none kV6 dc6 pm6 an6 cd6 ct6), sl6⟩) (c6 : PySem.W.codeIn K cd6 "_law_rule" = true) (k6 : PySem.W.keepIn K (.ref f6) = true)
    {f7 : Addr} {od7 an7 : Option Addr} {sl7 : Array (Option Value)} {oc7 kV7 dc7 pm7 cd7 ct7 : Value}
    (a7 : PySem.W.nsIn K mainGlobals "_law_wish" = some (some (.ref f7)))
    (l7 : K.lookup f7 = some ⟨oc7, od7, .func (PySem.W.fnOf "_law_wish" "_law_wish" (defArgs s_law_wish) (defBody s_law_wish) (defScope s_law_wish) .none kV7 dc7 pm7 an7 cd7 ct7), sl7⟩) (c7 : PySem.W.codeIn K cd7 "_law_wish" = true) (k7 : PySem.W.keepIn K (.ref f7) = true)
    {f8 : Addr} {od8 an8 : Option Addr} {sl8 : Array (Option Value)} {oc8 kV8 dc8 pm8 cd8 ct8 : Value}
    (a8 : PySem.W.nsIn K mainGlobals "_law_rule_fields" = some (some (.ref f8)))
    (l8 : K.lookup f8 = some ⟨oc8, od8, .func (PySem.W.fnOf "_law_rule_fields" "_law_rule_fields" (defArgs s_law_rule_fields) (defBody s_law_rule_fields) (defScope s_law_rule_fields) .none kV8 dc8 pm8 an8 cd8 ct8), sl8⟩) (c8 : PySem.W.codeIn K cd8 "_law_rule_fields" = true) (k8 : PySem.W.keepIn K (.ref f8) = true)
    {f9 : Addr} {od9 an9 : Option Addr} {sl9 : Array (Option Value)} {oc9 kV9 dc9 pm9 cd9 ct9 : Value}
    (a9 : PySem.W.nsIn K mainGlobals "_law_wish_fields" = some (some (.ref f9)))
    (l9 : K.lookup f9 = some ⟨oc9, od9, .func (PySem.W.fnOf "_law_wish_fields" "_law_wish_fields" (defArgs s_law_wish_fields) (defBody s_law_wish_fields) (defScope s_law_wish_fields) .none kV9 dc9 pm9 an9 cd9 ct9), sl9⟩) (c9 : PySem.W.codeIn K cd9 "_law_wish_fields" = true) (k9 : PySem.W.keepIn K (.ref f9) = true)
    {f10 : Addr} {od10 an10 : Option Addr} {sl10 : Array (Option Value)} {oc10 kV10 dc10 pm10 cd10 ct10 : Value}
    (a10 : PySem.W.nsIn K mainGlobals "_law_less" = some (some (.ref f10)))
    (l10 : K.lookup f10 = some ⟨oc10, od10, .func (PySem.W.fnOf "_law_less" "_law_less" (defArgs s_law_less) (defBody s_law_less) (defScope s_law_less) .none kV10 dc10 pm10 an10 cd10 ct10), sl10⟩) (c10 : PySem.W.codeIn K cd10 "_law_less" = true) (k10 : PySem.W.keepIn K (.ref f10) = true)
    {f11 : Addr} {od11 an11 : Option Addr} {sl11 : Array (Option Value)} {oc11 kV11 dc11 pm11 cd11 ct11 : Value}
    (a11 : PySem.W.nsIn K mainGlobals "_law_rule_both" = some (some (.ref f11)))
    (l11 : K.lookup f11 = some ⟨oc11, od11, .func (PySem.W.fnOf "_law_rule_both" "_law_rule_both" (defArgs s_law_rule_both) (defBody s_law_rule_both) (defScope s_law_rule_both) .none kV11 dc11 pm11 an11 cd11 ct11), sl11⟩) (c11 : PySem.W.codeIn K cd11 "_law_rule_both" = true) (k11 : PySem.W.keepIn K (.ref f11) = true)
    {f12 : Addr} {od12 an12 : Option Addr} {sl12 : Array (Option Value)} {oc12 kV12 dc12 pm12 cd12 ct12 : Value}
    (a12 : PySem.W.nsIn K mainGlobals "_law_wish_both" = some (some (.ref f12)))
    (l12 : K.lookup f12 = some ⟨oc12, od12, .func (PySem.W.fnOf "_law_wish_both" "_law_wish_both" (defArgs s_law_wish_both) (defBody s_law_wish_both) (defScope s_law_wish_both) .none kV12 dc12 pm12 an12 cd12 ct12), sl12⟩) (c12 : PySem.W.codeIn K cd12 "_law_wish_both" = true) (k12 : PySem.W.keepIn K (.ref f12) = true)
    {f13 : Addr} {od13 an13 : Option Addr} {sl13 : Array (Option Value)} {oc13 kV13 dc13 pm13 cd13 ct13 : Value}
    (a13 : PySem.W.nsIn K mainGlobals "_law_true" = some (some (.ref f13)))
    (l13 : K.lookup f13 = some ⟨oc13, od13, .func (PySem.W.fnOf "_law_true" "_law_true" (defArgs s_law_true) (defBody s_law_true) (defScope s_law_true) .none kV13 dc13 pm13 an13 cd13 ct13), sl13⟩) (c13 : PySem.W.codeIn K cd13 "_law_true" = true) (k13 : PySem.W.keepIn K (.ref f13) = true)
    {f14 : Addr} {od14 an14 : Option Addr} {sl14 : Array (Option Value)} {oc14 kV14 dc14 pm14 cd14 ct14 : Value}
    (a14 : PySem.W.nsIn K mainGlobals "_law_same" = some (some (.ref f14)))
    (l14 : K.lookup f14 = some ⟨oc14, od14, .func (PySem.W.fnOf "_law_same" "_law_same" (defArgs s_law_same) (defBody s_law_same) (defScope s_law_same) .none kV14 dc14 pm14 an14 cd14 ct14), sl14⟩) (c14 : PySem.W.codeIn K cd14 "_law_same" = true) (k14 : PySem.W.keepIn K (.ref f14) = true)
    {f15 : Addr} {od15 an15 : Option Addr} {sl15 : Array (Option Value)} {oc15 kV15 dc15 pm15 cd15 ct15 : Value}
    (a15 : PySem.W.nsIn K mainGlobals "_law_pair" = some (some (.ref f15)))
    (l15 : K.lookup f15 = some ⟨oc15, od15, .func (PySem.W.fnOf "_law_pair" "_law_pair" (defArgs s_law_pair) (defBody s_law_pair) (defScope s_law_pair) .none kV15 dc15 pm15 an15 cd15 ct15), sl15⟩) (c15 : PySem.W.codeIn K cd15 "_law_pair" = true) (k15 : PySem.W.keepIn K (.ref f15) = true)
    {f16 : Addr} {od16 an16 : Option Addr} {sl16 : Array (Option Value)} {oc16 kV16 dc16 pm16 cd16 ct16 : Value}
    (a16 : PySem.W.nsIn K mainGlobals "law" = some (some (.ref f16)))
    (l16 : K.lookup f16 = some ⟨oc16, od16, .func (PySem.W.fnOf "law" "law" (defArgs s_law) (defBody s_law) (defScope s_law) .none kV16 dc16 pm16 an16 cd16 ct16), sl16⟩) (c16 : PySem.W.codeIn K cd16 "law" = true) (k16 : PySem.W.keepIn K (.ref f16) = true)
    {f17 : Addr} {od17 an17 : Option Addr} {sl17 : Array (Option Value)} {oc17 dc17 pm17 cd17 ct17 : Value} {D17 : Addr}
    (a17_Rule : PySem.W.findIn K (.ref C_Rule) "__init__" = some (some (.ref f17)))
    (i17 : PySem.W.isFn K (.ref f17) = true)
    (l17 : K.lookup f17 = some ⟨oc17, od17, .func (PySem.W.fnOf "__init__" "Rule.__init__" (defArgs s_Rule_init) (defBody s_Rule_init) (defScope s_Rule_init) .none (.ref D17) dc17 pm17 an17 cd17 ct17), sl17⟩) (c17 : PySem.W.codeIn K cd17 "Rule.__init__" = true) (k17 : PySem.W.keepIn K (.ref f17) = true)
    {tk_Rule_init_keep : Tok}
    (y_Rule_init_keep : PySem.W.nsIn K D17 "keep" = some (some (.int 0 tk_Rule_init_keep)))
    {tk_Rule_init_worn : Tok}
    (y_Rule_init_worn : PySem.W.nsIn K D17 "worn" = some (some (.int 0 tk_Rule_init_worn)))
    {tk_Rule_init_alone : Tok}
    (y_Rule_init_alone : PySem.W.nsIn K D17 "alone" = some (some (.int 0 tk_Rule_init_alone)))
    (y_Rule_init_anew : PySem.W.nsIn K D17 "anew" = some (some (.bool false)))
    (y_Rule_init_own : PySem.W.nsIn K D17 "own" = some (some (.bool false)))
    (y_Rule_init_common : PySem.W.nsIn K D17 "common" = some (some (.bool false)))
    (y_Rule_init_never : PySem.W.nsIn K D17 "never" = some (some (.bool false)))
    (y_Rule_init_strict : PySem.W.nsIn K D17 "strict" = some (some (.bool false)))
    {f18 : Addr} {od18 an18 : Option Addr} {sl18 : Array (Option Value)} {oc18 kV18 dc18 pm18 cd18 ct18 : Value}
    (a18_Rule : PySem.W.findIn K (.ref C_Rule) "both" = some (some (.ref f18)))
    (i18 : PySem.W.isFn K (.ref f18) = true)
    (l18 : K.lookup f18 = some ⟨oc18, od18, .func (PySem.W.fnOf "both" "Rule.both" (defArgs s_Rule_both) (defBody s_Rule_both) (defScope s_Rule_both) .none kV18 dc18 pm18 an18 cd18 ct18), sl18⟩) (c18 : PySem.W.codeIn K cd18 "Rule.both" = true) (k18 : PySem.W.keepIn K (.ref f18) = true)
    {f19 : Addr} {od19 an19 : Option Addr} {sl19 : Array (Option Value)} {oc19 dc19 pm19 cd19 ct19 : Value} {D19 : Addr}
    (a19_Wish : PySem.W.findIn K (.ref C_Wish) "__init__" = some (some (.ref f19)))
    (i19 : PySem.W.isFn K (.ref f19) = true)
    (l19 : K.lookup f19 = some ⟨oc19, od19, .func (PySem.W.fnOf "__init__" "Wish.__init__" (defArgs s_Wish_init) (defBody s_Wish_init) (defScope s_Wish_init) .none (.ref D19) dc19 pm19 an19 cd19 ct19), sl19⟩) (c19 : PySem.W.codeIn K cd19 "Wish.__init__" = true) (k19 : PySem.W.keepIn K (.ref f19) = true)
    (y_Wish_init_atmost : PySem.W.nsIn K D19 "atmost" = some (some (.none)))
    {tk_Wish_init_left : Tok}
    (y_Wish_init_left : PySem.W.nsIn K D19 "left" = some (some (.int 0 tk_Wish_init_left)))
    {tk_Wish_init_worn : Tok}
    (y_Wish_init_worn : PySem.W.nsIn K D19 "worn" = some (some (.int 0 tk_Wish_init_worn)))
    (y_Wish_init_anew : PySem.W.nsIn K D19 "anew" = some (some (.bool false)))
    (y_Wish_init_kept : PySem.W.nsIn K D19 "kept" = some (some (.bool false)))
    (y_Wish_init_firm : PySem.W.nsIn K D19 "firm" = some (some (.bool false)))
    {f20 : Addr} {od20 an20 : Option Addr} {sl20 : Array (Option Value)} {oc20 kV20 dc20 pm20 cd20 ct20 : Value}
    (a20_Wish : PySem.W.findIn K (.ref C_Wish) "both" = some (some (.ref f20)))
    (i20 : PySem.W.isFn K (.ref f20) = true)
    (l20 : K.lookup f20 = some ⟨oc20, od20, .func (PySem.W.fnOf "both" "Wish.both" (defArgs s_Wish_both) (defBody s_Wish_both) (defScope s_Wish_both) .none kV20 dc20 pm20 an20 cd20 ct20), sl20⟩) (c20 : PySem.W.codeIn K cd20 "Wish.both" = true) (k20 : PySem.W.keepIn K (.ref f20) = true)
    (z_bool : PySem.W.nsIn K mainGlobals "bool" = some none)
    (z_int : PySem.W.nsIn K mainGlobals "int" = some none)
    (z_isinstance : PySem.W.nsIn K mainGlobals "isinstance" = some none)
    (z_len : PySem.W.nsIn K mainGlobals "len" = some none)
    (z_list : PySem.W.nsIn K mainGlobals "list" = some none)
    (z_max : PySem.W.nsIn K mainGlobals "max" = some none)
    (z_min : PySem.W.nsIn K mainGlobals "min" = some none)
    (z_range : PySem.W.nsIn K mainGlobals "range" = some none)
    : ∃ fd : FuncData, (∀ (s : Shared) (v : Value), BindsTo s fd ⟨[v], []⟩ [("_law_script", v)]) ∧ ∀ base : Heap, K.In base → base.Ns mainGlobals mg → FnOk l.prog w K mg base CX0 5 fa fd ["_law_script"] (spLaw K) := by
  have e := hfa.symm.trans (PySem.W.mg_of X G a16)
  cases e
  have F0 := fun_mk (st := s_lesser) l0 c0 k0
  have F1 := fun_mk (st := s_law_well) l1 c1 k1
  have F2 := fun_mk (st := s_law_draw) l2 c2 k2
  have F3 := fun_mk (st := s_law_number) l3 c3 k3
  have F4 := fun_mk (st := s_law_truth) l4 c4 k4
  have F5 := fun_mk (st := s_law_row) l5 c5 k5
  have F6 := fun_mk (st := s_law_rule) l6 c6 k6
  have F7 := fun_mk (st := s_law_wish) l7 c7 k7
  have F8 := fun_mk (st := s_law_rule_fields) l8 c8 k8
  have F9 := fun_mk (st := s_law_wish_fields) l9 c9 k9
  have F10 := fun_mk (st := s_law_less) l10 c10 k10
  have F11 := fun_mk (st := s_law_rule_both) l11 c11 k11
  have F12 := fun_mk (st := s_law_wish_both) l12 c12 k12
  have F13 := fun_mk (st := s_law_true) l13 c13 k13
  have F14 := fun_mk (st := s_law_same) l14 c14 k14
  have F15 := fun_mk (st := s_law_pair) l15 c15 k15
  have F16 := fun_mk (st := s_law) l16 c16 k16
  have F17 := fun_mk (st := s_Rule_init) l17 c17 k17
  have FK17 : FunD K "__init__" "Rule.__init__" (defArgs s_Rule_init) (defBody s_Rule_init) (defScope s_Rule_init) [] ([("keep", .int 0), ("worn", .int 0), ("alone", .int 0), ("anew", .bl false), ("own", .bl false), ("common", .bl false), ("never", .bl false), ("strict", .bl false)] : List (Str × V)) f17 _ := ⟨⟨_, _, _, _, _, _, _, _, _, _, rfl, l17, c17, .inl ⟨rfl, rfl⟩, .inr ⟨_, rfl, (List.forall_mem_cons.mpr ⟨⟨_, y_Rule_init_keep, ⟨_, rfl⟩⟩, (List.forall_mem_cons.mpr ⟨⟨_, y_Rule_init_worn, ⟨_, rfl⟩⟩, (List.forall_mem_cons.mpr ⟨⟨_, y_Rule_init_alone, ⟨_, rfl⟩⟩, (List.forall_mem_cons.mpr ⟨⟨_, y_Rule_init_anew, rfl⟩, (List.forall_mem_cons.mpr ⟨⟨_, y_Rule_init_own, rfl⟩, (List.forall_mem_cons.mpr ⟨⟨_, y_Rule_init_common, rfl⟩, (List.forall_mem_cons.mpr ⟨⟨_, y_Rule_init_never, rfl⟩, (List.forall_mem_cons.mpr ⟨⟨_, y_Rule_init_strict, rfl⟩, (fun _ h => nomatch h)⟩)⟩)⟩)⟩)⟩)⟩)⟩)⟩)⟩⟩, k17⟩
  have F18 := fun_mk (st := s_Rule_both) l18 c18 k18
  have F19 := fun_mk (st := s_Wish_init) l19 c19 k19
  have FK19 : FunD K "__init__" "Wish.__init__" (defArgs s_Wish_init) (defBody s_Wish_init) (defScope s_Wish_init) [] ([("atmost", .non), ("left", .int 0), ("worn", .int 0), ("anew", .bl false), ("kept", .bl false), ("firm", .bl false)] : List (Str × V)) f19 _ := ⟨⟨_, _, _, _, _, _, _, _, _, _, rfl, l19, c19, .inl ⟨rfl, rfl⟩, .inr ⟨_, rfl, (List.forall_mem_cons.mpr ⟨⟨_, y_Wish_init_atmost, rfl⟩, (List.forall_mem_cons.mpr ⟨⟨_, y_Wish_init_left, ⟨_, rfl⟩⟩, (List.forall_mem_cons.mpr ⟨⟨_, y_Wish_init_worn, ⟨_, rfl⟩⟩, (List.forall_mem_cons.mpr ⟨⟨_, y_Wish_init_anew, rfl⟩, (List.forall_mem_cons.mpr ⟨⟨_, y_Wish_init_kept, rfl⟩, (List.forall_mem_cons.mpr ⟨⟨_, y_Wish_init_firm, rfl⟩, (fun _ h => nomatch h)⟩)⟩)⟩)⟩)⟩)⟩)⟩⟩, k19⟩
  have F20 := fun_mk (st := s_Wish_both) l20 c20 k20
  let T : Txt K mg := {
    f_lesser := f0, fd_lesser := _, d_lesser := ⟨F0, F0.binds (ps := ["one", "other"]) (fun _ _ _ _ _ _ us hl => match us, hl with | [_, _], _ => rfl), PySem.W.mg_of X G a0⟩,
    f_law_well := f1, fd_law_well := _, d_law_well := ⟨F1, F1.binds (ps := ["_law_cell"]) (fun _ _ _ _ _ _ us hl => match us, hl with | [_], _ => rfl), PySem.W.mg_of X G a1⟩,
    f_law_draw := f2, fd_law_draw := _, d_law_draw := ⟨F2, F2.binds (ps := ["_law_well_here", "_law_many"]) (fun _ _ _ _ _ _ us hl => match us, hl with | [_, _], _ => rfl), PySem.W.mg_of X G a2⟩,
    f_law_number := f3, fd_law_number := _, d_law_number := ⟨F3, F3.binds (ps := ["_law_well_here", "_law_near"]) (fun _ _ _ _ _ _ us hl => match us, hl with | [_, _], _ => rfl), PySem.W.mg_of X G a3⟩,
    f_law_truth := f4, fd_law_truth := _, d_law_truth := ⟨F4, F4.binds (ps := ["_law_well_here"]) (fun _ _ _ _ _ _ us hl => match us, hl with | [_], _ => rfl), PySem.W.mg_of X G a4⟩,
    f_law_row := f5, fd_law_row := _, d_law_row := ⟨F5, F5.binds (ps := ["_law_well_here", "_law_many", "_law_truths", "_law_ahead"]) (fun _ _ _ _ _ _ us hl => match us, hl with | [_, _, _, _], _ => rfl), PySem.W.mg_of X G a5⟩,
    f_law_rule := f6, fd_law_rule := _, d_law_rule := ⟨F6, F6.binds (ps := ["_law_some"]) (fun _ _ _ _ _ _ us hl => match us, hl with | [_], _ => rfl), PySem.W.mg_of X G a6⟩,
    f_law_wish := f7, fd_law_wish := _, d_law_wish := ⟨F7, F7.binds (ps := ["_law_some"]) (fun _ _ _ _ _ _ us hl => match us, hl with | [_], _ => rfl), PySem.W.mg_of X G a7⟩,
    f_law_rule_fields := f8, fd_law_rule_fields := _, d_law_rule_fields := ⟨F8, F8.binds (ps := ["_law_one"]) (fun _ _ _ _ _ _ us hl => match us, hl with | [_], _ => rfl), PySem.W.mg_of X G a8⟩,
    f_law_wish_fields := f9, fd_law_wish_fields := _, d_law_wish_fields := ⟨F9, F9.binds (ps := ["_law_one"]) (fun _ _ _ _ _ _ us hl => match us, hl with | [_], _ => rfl), PySem.W.mg_of X G a9⟩,
    f_law_less := f10, fd_law_less := _, d_law_less := ⟨F10, F10.binds (ps := ["_law_one", "_law_other"]) (fun _ _ _ _ _ _ us hl => match us, hl with | [_, _], _ => rfl), PySem.W.mg_of X G a10⟩,
    f_law_rule_both := f11, fd_law_rule_both := _, d_law_rule_both := ⟨F11, F11.binds (ps := ["_law_one", "_law_other"]) (fun _ _ _ _ _ _ us hl => match us, hl with | [_, _], _ => rfl), PySem.W.mg_of X G a11⟩,
    f_law_wish_both := f12, fd_law_wish_both := _, d_law_wish_both := ⟨F12, F12.binds (ps := ["_law_one", "_law_other"]) (fun _ _ _ _ _ _ us hl => match us, hl with | [_, _], _ => rfl), PySem.W.mg_of X G a12⟩,
    f_law_true := f13, fd_law_true := _, d_law_true := ⟨F13, F13.binds (ps := ["_law_fields", "_law_at"]) (fun _ _ _ _ _ _ us hl => match us, hl with | [_, _], _ => rfl), PySem.W.mg_of X G a13⟩,
    f_law_same := f14, fd_law_same := _, d_law_same := ⟨F14, F14.binds (ps := ["_law_one", "_law_fields"]) (fun _ _ _ _ _ _ us hl => match us, hl with | [_, _], _ => rfl), PySem.W.mg_of X G a14⟩,
    f_law_pair := f15, fd_law_pair := _, d_law_pair := ⟨F15, F15.binds (ps := ["_law_made", "_law_rows", "_law_due"]) (fun _ _ _ _ _ _ us hl => match us, hl with | [_, _, _], _ => rfl), PySem.W.mg_of X G a15⟩,
    f_law := fa, fd_law := _, d_law := ⟨F16, F16.binds (ps := ["_law_script"]) (fun _ _ _ _ _ _ us hl => match us, hl with | [_], _ => rfl), PySem.W.mg_of X G a16⟩,
    f_Rule_init := f17, fd_Rule_init := _, d_Rule_init := ⟨F17⟩,
    f_Rule_both := f18, fd_Rule_both := _, d_Rule_both := ⟨F18, F18.binds (ps := ["self", "other"]) (fun _ _ _ _ _ _ us hl => match us, hl with | [_, _], _ => rfl)⟩,
    f_Wish_init := f19, fd_Wish_init := _, d_Wish_init := ⟨F19⟩,
    f_Wish_both := f20, fd_Wish_both := _, d_Wish_both := ⟨F20, F20.binds (ps := ["self", "other"]) (fun _ _ _ _ _ _ us hl => match us, hl with | [_, _], _ => rfl)⟩,
    C_Rule := C_Rule, g_Rule := PySem.W.mg_of X G aC_Rule, cl_Rule := ⟨pg_Rule, hd_Rule, po_Rule, sa_Rule⟩,
    mk_Rule := ⟨mk_Rule, a17_Rule, i17, kc_Rule⟩,
    n_Rule_keep := n_Rule_keep,
    n_Rule_worn := n_Rule_worn,
    n_Rule_alone := n_Rule_alone,
    n_Rule_anew := n_Rule_anew,
    n_Rule_own := n_Rule_own,
    n_Rule_common := n_Rule_common,
    n_Rule_never := n_Rule_never,
    n_Rule_strict := n_Rule_strict,
    ha_Rule := ha_Rule, hm_Rule := hm_Rule,
    me_Rule_both := ⟨a18_Rule, i18, k18⟩,
    C_Wish := C_Wish, g_Wish := PySem.W.mg_of X G aC_Wish, cl_Wish := ⟨pg_Wish, hd_Wish, po_Wish, sa_Wish⟩,
    mk_Wish := ⟨mk_Wish, a19_Wish, i19, kc_Wish⟩,
    n_Wish_atmost := n_Wish_atmost,
    n_Wish_left := n_Wish_left,
    n_Wish_worn := n_Wish_worn,
    n_Wish_anew := n_Wish_anew,
    n_Wish_kept := n_Wish_kept,
    n_Wish_firm := n_Wish_firm,
    ha_Wish := ha_Wish, hm_Wish := hm_Wish,
    me_Wish_both := ⟨a20_Wish, i20, k20⟩,
    hn_cls := hn_cls, htk_cls := htk_cls,
    ki_Rule_Rule := ki_Rule_Rule,
    ki_Rule_Wish := ki_Rule_Wish,
    ki_Wish_Rule := ki_Wish_Rule,
    ki_Wish_Wish := ki_Wish_Wish,
    kb_0 := (FK17.kbinds0 (ps := ["self", "keep", "worn", "alone", "anew", "own", "common", "never", "strict"]) 1 ["worn", "keep", "alone", "own", "anew", "never", "common", "strict"] [] (fun us mv ws => us ++ pickKw [.inr 1, .inr 0, .inr 2, .inr 4, .inr 3, .inr 6, .inr 5, .inr 7] mv ws) (by simp) (by simp) (fun r1 r2 r3 => pick_rel [.inr 1, .inr 0, .inr 2, .inr 4, .inr 3, .inr 6, .inr 5, .inr 7] r1 r2 r3) (fun D doc pm an cdv ct us mv ws h1 h2 h3 => match us, mv, ws, h1, h2, h3 with | [_], [], [_, _, _, _, _, _, _, _], _, _, _ => rfl)).elim (fun mv h => ⟨_, h⟩),
    kb_1 := (FK19.kbinds0 (ps := ["self", "atmost", "left", "worn", "anew", "kept", "firm"]) 1 ["left", "atmost", "worn", "kept", "anew", "firm"] [] (fun us mv ws => us ++ pickKw [.inr 1, .inr 0, .inr 2, .inr 4, .inr 3, .inr 5] mv ws) (by simp) (by simp) (fun r1 r2 r3 => pick_rel [.inr 1, .inr 0, .inr 2, .inr 4, .inr 3, .inr 5] r1 r2 r3) (fun D doc pm an cdv ct us mv ws h1 h2 h3 => match us, mv, ws, h1, h2, h3 with | [_], [], [_, _, _, _, _, _], _, _, _ => rfl)).elim (fun mv h => ⟨_, h⟩),
    kb_2 := (FK17.kbinds0 (ps := ["self", "keep", "worn", "alone", "anew", "own", "common", "never", "strict"]) 1 ["keep", "worn", "alone", "anew", "own", "common", "never", "strict"] [] (fun us mv ws => us ++ pickKw [.inr 0, .inr 1, .inr 2, .inr 3, .inr 4, .inr 5, .inr 6, .inr 7] mv ws) (by simp) (by simp) (fun r1 r2 r3 => pick_rel [.inr 0, .inr 1, .inr 2, .inr 3, .inr 4, .inr 5, .inr 6, .inr 7] r1 r2 r3) (fun D doc pm an cdv ct us mv ws h1 h2 h3 => match us, mv, ws, h1, h2, h3 with | [_], [], [_, _, _, _, _, _, _, _], _, _, _ => rfl)).elim (fun mv h => ⟨_, h⟩),
    kb_3 := (FK19.kbinds0 (ps := ["self", "atmost", "left", "worn", "anew", "kept", "firm"]) 1 ["atmost", "left", "worn", "anew", "kept", "firm"] [] (fun us mv ws => us ++ pickKw [.inr 0, .inr 1, .inr 2, .inr 3, .inr 4, .inr 5] mv ws) (by simp) (by simp) (fun r1 r2 r3 => pick_rel [.inr 0, .inr 1, .inr 2, .inr 3, .inr 4, .inr 5] r1 r2 r3) (fun D doc pm an cdv ct us mv ws h1 h2 h3 => match us, mv, ws, h1, h2, h3 with | [_], [], [_, _, _, _, _, _], _, _, _ => rfl)).elim (fun mv h => ⟨_, h⟩),
    m_bool := PySem.W.mg_none_of X G z_bool,
    m_int := PySem.W.mg_none_of X G z_int,
    m_isinstance := PySem.W.mg_none_of X G z_isinstance,
    m_len := PySem.W.mg_none_of X G z_len,
    m_list := PySem.W.mg_none_of X G z_list,
    m_max := PySem.W.mg_none_of X G z_max,
    m_min := PySem.W.mg_none_of X G z_min,
    m_range := PySem.W.mg_none_of X G z_range
  }
  exact ⟨T.fd_law, fun s v => .of_eq rfl, fun base _ _ => ok_law T⟩
end My
open PySem PySem.W PyProof.Rows
set_option maxHeartbeats 0 in
theorem PySem.Challenge.cw_pagelodge_k15_both_of_two_holds : PySem.Challenge.rw_pagelodge_k15_both_of_two.Holds := by
  w_on; o_law; k_head; (case hw => w_witness2)
  k_fill
  refine L2.walk_of (l := PySem.Challenge.rw_pagelodge_k15_both_of_two) (n := 63) (k := 5) (x := "_law_script") (CX := fun _ => L2.CX0) (sp := fun w => My.spLaw _) rfl (by decide) rfl ⟨rfl, by decide, by decide⟩ (fun w h Y => PySem.W.kIn_of Y) ?F (fun _ _ a ns hl _ hS => ⟨a, ns, rfl, hS, hl, fun _ => rfl⟩) (fun _ _ _ _ _ h => h)
  case F =>
    intro w mg fa h KX G hmg
    refine' My.all_mk KX G hmg ?aC_Rule ?pg_Rule ?hd_Rule ?po_Rule ?sa_Rule ?mk_Rule ?kc_Rule ?n_Rule_keep ?n_Rule_worn ?n_Rule_alone ?n_Rule_anew ?n_Rule_own ?n_Rule_common ?n_Rule_never ?n_Rule_strict ?aC_Wish ?pg_Wish ?hd_Wish ?po_Wish ?sa_Wish ?mk_Wish ?kc_Wish ?n_Wish_atmost ?n_Wish_left ?n_Wish_worn ?n_Wish_anew ?n_Wish_kept ?n_Wish_firm ?ha_Rule ?hm_Rule ?ha_Wish ?hm_Wish ?hn_cls ?htk_cls ?ki_Rule_Rule ?ki_Rule_Wish ?ki_Wish_Rule ?ki_Wish_Wish ?a0 ?l0 ?c0 ?k0 ?a1 ?l1 ?c1 ?k1 ?a2 ?l2 ?c2 ?k2 ?a3 ?l3 ?c3 ?k3 ?a4 ?l4 ?c4 ?k4 ?a5 ?l5 ?c5 ?k5 ?a6 ?l6 ?c6 ?k6 ?a7 ?l7 ?c7 ?k7 ?a8 ?l8 ?c8 ?k8 ?a9 ?l9 ?c9 ?k9 ?a10 ?l10 ?c10 ?k10 ?a11 ?l11 ?c11 ?k11 ?a12 ?l12 ?c12 ?k12 ?a13 ?l13 ?c13 ?k13 ?a14 ?l14 ?c14 ?k14 ?a15 ?l15 ?c15 ?k15 ?a16 ?l16 ?c16 ?k16 ?a17_Rule ?i17 ?l17 ?c17 ?k17 ?y_Rule_init_keep ?y_Rule_init_worn ?y_Rule_init_alone ?y_Rule_init_anew ?y_Rule_init_own ?y_Rule_init_common ?y_Rule_init_never ?y_Rule_init_strict ?a18_Rule ?i18 ?l18 ?c18 ?k18 ?a19_Wish ?i19 ?l19 ?c19 ?k19 ?y_Wish_init_atmost ?y_Wish_init_left ?y_Wish_init_worn ?y_Wish_init_anew ?y_Wish_init_kept ?y_Wish_init_firm ?a20_Wish ?i20 ?l20 ?c20 ?k20 ?z_bool ?z_int ?z_isinstance ?z_len ?z_list ?z_max ?z_min ?z_range
    (case aC_Rule => k_is)
    (case pg_Rule => k_is)
    (case hd_Rule => k_is)
    (case po_Rule => k_is)
    (case sa_Rule => k_is)
    (case mk_Rule => k_is)
    (case kc_Rule => k_is)
    (case n_Rule_keep => k_is)
    (case n_Rule_worn => k_is)
    (case n_Rule_alone => k_is)
    (case n_Rule_anew => k_is)
    (case n_Rule_own => k_is)
    (case n_Rule_common => k_is)
    (case n_Rule_never => k_is)
    (case n_Rule_strict => k_is)
    (case aC_Wish => k_is)
    (case pg_Wish => k_is)
    (case hd_Wish => k_is)
    (case po_Wish => k_is)
    (case sa_Wish => k_is)
    (case mk_Wish => k_is)
    (case kc_Wish => k_is)
    (case n_Wish_atmost => k_is)
    (case n_Wish_left => k_is)
    (case n_Wish_worn => k_is)
    (case n_Wish_anew => k_is)
    (case n_Wish_kept => k_is)
    (case n_Wish_firm => k_is)
    (case ha_Rule => k_is)
    (case hm_Rule => k_is)
    (case ha_Wish => k_is)
    (case hm_Wish => k_is)
    (case hn_cls => k_is)
    (case htk_cls => k_is)
    (case ki_Rule_Rule => kit_is)
    (case ki_Rule_Wish => kit_is)
    (case ki_Wish_Rule => kit_is)
    (case ki_Wish_Wish => kit_is)
    (case a0 => k_is)
    (case l0 => k_is)
    (case c0 => k_is)
    (case k0 => k_is)
    (case a1 => k_is)
    (case l1 => k_is)
    (case c1 => k_is)
    (case k1 => k_is)
    (case a2 => k_is)
    (case l2 => k_is)
    (case c2 => k_is)
    (case k2 => k_is)
    (case a3 => k_is)
    (case l3 => k_is)
    (case c3 => k_is)
    (case k3 => k_is)
    (case a4 => k_is)
    (case l4 => k_is)
    (case c4 => k_is)
    (case k4 => k_is)
    (case a5 => k_is)
    (case l5 => k_is)
    (case c5 => k_is)
    (case k5 => k_is)
    (case a6 => k_is)
    (case l6 => k_is)
    (case c6 => k_is)
    (case k6 => k_is)
    (case a7 => k_is)
    (case l7 => k_is)
    (case c7 => k_is)
    (case k7 => k_is)
    (case a8 => k_is)
    (case l8 => k_is)
    (case c8 => k_is)
    (case k8 => k_is)
    (case a9 => k_is)
    (case l9 => k_is)
    (case c9 => k_is)
    (case k9 => k_is)
    (case a10 => k_is)
    (case l10 => k_is)
    (case c10 => k_is)
    (case k10 => k_is)
    (case a11 => k_is)
    (case l11 => k_is)
    (case c11 => k_is)
    (case k11 => k_is)
    (case a12 => k_is)
    (case l12 => k_is)
    (case c12 => k_is)
    (case k12 => k_is)
    (case a13 => k_is)
    (case l13 => k_is)
    (case c13 => k_is)
    (case k13 => k_is)
    (case a14 => k_is)
    (case l14 => k_is)
    (case c14 => k_is)
    (case k14 => k_is)
    (case a15 => k_is)
    (case l15 => k_is)
    (case c15 => k_is)
    (case k15 => k_is)
    (case a16 => k_is)
    (case l16 => k_is)
    (case c16 => k_is)
    (case k16 => k_is)
    (case a17_Rule => k_is)
    (case i17 => k_is)
    (case l17 => k_is)
    (case c17 => k_is)
    (case k17 => k_is)
    (case y_Rule_init_keep => k_is)
    (case y_Rule_init_worn => k_is)
    (case y_Rule_init_alone => k_is)
    (case y_Rule_init_anew => k_is)
    (case y_Rule_init_own => k_is)
    (case y_Rule_init_common => k_is)
    (case y_Rule_init_never => k_is)
    (case y_Rule_init_strict => k_is)
    (case a18_Rule => k_is)
    (case i18 => k_is)
    (case l18 => k_is)
    (case c18 => k_is)
    (case k18 => k_is)
    (case a19_Wish => k_is)
    (case i19 => k_is)
    (case l19 => k_is)
    (case c19 => k_is)
    (case k19 => k_is)
    (case y_Wish_init_atmost => k_is)
    (case y_Wish_init_left => k_is)
    (case y_Wish_init_worn => k_is)
    (case y_Wish_init_anew => k_is)
    (case y_Wish_init_kept => k_is)
    (case y_Wish_init_firm => k_is)
    (case a20_Wish => k_is)
    (case i20 => k_is)
    (case l20 => k_is)
    (case c20 => k_is)
    (case k20 => k_is)
    (case z_bool => k_is)
    (case z_int => k_is)
    (case z_isinstance => k_is)
    (case z_len => k_is)
    (case z_list => k_is)
    (case z_max => k_is)
    (case z_min => k_is)
    (case z_range => k_is)
