import PyProof.Rows.All
import Wide.All
import OpenK.AllK
import Wide.FinOn
import HandS.ForMost
import HandS.IsInst
import HandS.Walk
import HandS.Style
import HandS.Evl
import KE.SortData
import HandS.TryOnly
import KE.DataFind
import PySem.Challenge.RW_pagelodge_k06_parts_place_by_place
set_option Elab.async false
set_option linter.all false
set_option maxRecDepth 100000
set_option maxHeartbeats 4000000
namespace My
open PySem PySem.Spec PyProof.Rows L2 TL
/-- xs == [], xs != []: items of any kind -/
def rEqNil (K : PySem.W.Frag) : R2 := fun x y H Q => ∃ p q xs, x = .ref p ∧ y = .ref q ∧ SqL K H p xs ∧ SqL K H q [] ∧ Q (.bl xs.isEmpty) H
section
variable {X : Cx}
theorem op_eqNil (hu : X.A.units + 64 < cLine) : OpR X (compareOp .Eq) (rEqNil X.K) := by
  intro pins s σ H x y v u Q I rx ry h
  obtain ⟨p, q, xs, rfl, rfl, h1, h2, k⟩ := h
  obtain ⟨its, rv, hl, _⟩ := I.list h1
  obtain ⟨its2, rv2, hl2, _⟩ := I.list h2
  cases (show v = Value.ref p from rx)
  cases (show u = Value.ref q from ry)
  cases rv2
  cases rv with
  | nil => exact SeqAt.eq_listAt (e := fun _ => true) hl.isList hl2.isList rfl (by omega) (fun j h1 _ => absurd h1 (by simp)) ⟨.bl true, H, I, rfl, k⟩
  | cons a b => exact SeqAt.eq_list_lengthsAt hl.isList hl2.isList (by simp) (by omega) ⟨.bl false, H, I, rfl, k⟩
end
/-! ### heaps that change at the well alone -/
def W3 (a b c : Int) : HO := .lst [.int a, .int b, .int c]
def IsW (H : Hp) (W : Addr) : Prop := ∃ a b c, H W = some (W3 a b c)
structure Wx (W : Addr) (H H' : Hp) : Prop where
  keep : ∀ b o, b ≠ W → H b = some o → H' b = some o
  well : IsW H' W
theorem Wx.refl {W : Addr} {H : Hp} (h : IsW H W) : Wx W H H := ⟨fun _ _ _ e => e, h⟩
theorem Wx.trans {W : Addr} {H H1 H2 : Hp} (a : Wx W H H1) (b : Wx W H1 H2) : Wx W H H2 := ⟨fun c o n e => b.keep c o n (a.keep c o n e), b.well⟩
theorem Wx.free {W : Addr} {H H' : Hp} (e : Wx W H H') {p : Addr} (h : H' p = none) : H p = none := by
  cases q : H p with
  | none => rfl
  | some o =>
    by_cases hp : p = W
    · obtain ⟨a, b, c, hw⟩ := e.well
      rw [hp, hw] at h
      cases h
    · rw [e.keep p o hp q] at h
      cases h
theorem Wx.new {W : Addr} {H H' : Hp} (e : Wx W H H') {p : Addr} {o : HO} (h : H' p = none) : Wx W H (upd H' p o) := by
  obtain ⟨k, a, b, c, hw⟩ := e
  refine ⟨fun d u n q => ?_, a, b, c, ?_⟩
  · rw [upd_ne (ne_of_none (k d u n q) h)]
    exact k d u n q
  · rw [upd_ne (ne_of_none hw h)]
    exact hw
theorem Wx.set {W : Addr} {H H' : Hp} (e : Wx W H H') (a b c : Int) : Wx W H (upd H' W (W3 a b c)) := by
  refine ⟨fun d u n q => ?_, a, b, c, upd_same⟩
  rw [upd_ne n]
  exact e.keep d u n q
theorem IsW.ne {H : Hp} {W p : Addr} (h : IsW H W) (hp : H p = none) : W ≠ p := by
  obtain ⟨a, b, c, hw⟩ := h
  exact ne_of_none hw hp
theorem Wx.same {W : Addr} {H H1 H2 : Hp} (a : Wx W H H1) (b : Same H1 H2) : Wx W H H2 := by
  obtain ⟨k, x, y, z, hw⟩ := a
  exact ⟨fun c o n e => b c o (k c o n e), x, y, z, b _ _ hw⟩
/-- a list (other than the well) that is made here may change -/
theorem Wx.mut {W : Addr} {H H' : Hp} (e : Wx W H H') {p : Addr} {o : HO} (h : H p = none) (n : W ≠ p) : Wx W H (upd H' p o) := by
  obtain ⟨k, a, b, c, hw⟩ := e
  refine ⟨fun d u m q => ?_, a, b, c, ?_⟩
  · rw [upd_ne (ne_of_none q h)]
    exact k d u m q
  · rw [upd_ne n]
    exact hw
def spWell : Sp := fun vs H Q _ => ∃ n : Int, vs = [.int n] ∧ ∀ p a b c, H p = none → Q (.ref p) (upd H p (W3 a b c))
def spDraw : Sp := fun vs H Q _ => ∃ (W : Addr) (m : Int), vs = [.ref W, .int m] ∧ 0 < m ∧ m < 1073741824 ∧ IsW H W ∧ ∀ r H', 0 ≤ r → r < m → Wx W H H' → Q (.int r) H'
theorem mod_lt {n m : Int} (h : 0 < m) : 0 ≤ n % m ∧ n % m < m := ⟨Int.emod_nonneg n (by omega), Int.emod_lt_of_pos n h⟩
theorem cmul_of {i j : Int} (h : 0 ≤ i ∧ i < 2147483647) : CMul i j := .inl (by omega)
/-! ### texts and lists -/
theorem atI_in {α : Type} {xs : List α} {r : Int} (h0 : 0 ≤ r) (h1 : r < xs.length) : ∃ c, c ∈ xs ∧ atI xs r = some c := by
  obtain ⟨n, rfl⟩ : ∃ n : Nat, r = n := ⟨r.toNat, by omega⟩
  have hn : n < xs.length := by omega
  exact ⟨xs[n], List.getElem_mem hn, atI_nat (List.getElem?_eq_getElem hn)⟩
theorem len_tl (z : Str) : z.cps.toList.length = z.length := Array.length_toList
theorem joinL_one : ∀ t : List Nat, joinL [] (t.map fun c => [c]) = t
  | [] => rfl
  | [c] => rfl
  | c :: d :: r => by
    show [c] ++ ([] ++ joinL [] ((d :: r).map fun c => [c])) = c :: d :: r
    rw [joinL_one (d :: r)]
    rfl
theorem join_signs (y : Str) (hy : y.cps.toList = []) (t : List Nat) : Txt.join y (t.map fun c => (⟨#[c]⟩ : Str)) = ⟨t.toArray⟩ := by
  have e : tl (Txt.join y (t.map fun c => (⟨#[c]⟩ : Str))) = t := by
    rw [join_eq, tl_join, List.map_map]
    show joinL (y.cps.toList) (t.map fun c => [c]) = t
    rw [hy, joinL_one]
  rw [← mk_tl (Txt.join y (t.map fun c => (⟨#[c]⟩ : Str))), e]
theorem joinL_len (S : List Nat) : ∀ ps : List (List Nat), (joinL S ps).length ≤ (ps.map List.length).sum + ps.length * S.length
  | [] => Nat.zero_le _
  | [p] => by
    show p.length ≤ p.length + 0 + 1 * S.length
    omega
  | p :: q :: r => by
    have ih := joinL_len S (q :: r)
    show (p ++ (S ++ joinL S (q :: r))).length ≤ p.length + ((q :: r).map List.length).sum + ((q :: r).length + 1) * S.length
    rw [List.length_append, List.length_append, Nat.add_mul]
    omega
theorem join_len (y : Str) (ps : List Str) : (Txt.join y ps).length ≤ (ps.map (·.length)).sum + ps.length * y.length := by
  have h := joinL_len (tl y) (ps.map tl)
  rw [← tl_join, ← join_eq, List.map_map, List.length_map] at h
  have e : (ps.map (List.length ∘ tl)) = ps.map (·.length) := List.map_congr_left fun z _ => len_tl z
  rw [e] at h
  have e2 : (tl (Txt.join y ps)).length = (Txt.join y ps).length := len_tl _
  have e3 : (tl y).length = y.length := len_tl _
  rw [e2, e3] at h
  exact h
theorem sum_ones (t : List Nat) : ((t.map fun c => (⟨#[c]⟩ : Str)).map (·.length)).sum = t.length := by
  induction t with
  | nil => rfl
  | cons c r ih =>
    show 1 + ((r.map fun c => (⟨#[c]⟩ : Str)).map (·.length)).sum = r.length + 1
    rw [ih]
    omega
theorem sum_le {b : Nat} : ∀ ps : List Str, (∀ z ∈ ps, z.length ≤ b) → (ps.map (·.length)).sum ≤ ps.length * b
  | [], _ => Nat.zero_le _
  | z :: r, h => by
    have ih := sum_le r fun y hy => h y (List.mem_cons_of_mem _ hy)
    have hz := h z (List.mem_cons_self ..)
    show z.length + (r.map (·.length)).sum ≤ (r.length + 1) * b
    rw [Nat.add_mul]
    omega
theorem len_app (a b : Str) : (a ++ b).length = a.length + b.length := Array.size_append
theorem cutS_len (z : Str) (lo hi : Option Int) : (cutS z lo hi).length ≤ z.length := by
  show ((z.cps.toList.drop _).take _).toArray.size ≤ _
  rw [List.size_toArray, List.length_take, List.length_drop, len_tl]
  omega
theorem szl {n : Nat} (h : n ≤ 100000) : n ≤ sizeLine := Nat.le_trans h (by decide)
theorem szlt {n : Nat} (h : n < 100000) : n < sizeLine := Nat.lt_of_lt_of_le h (by decide)
def spSigns : Sp := fun vs H Q _ => ∃ (W : Addr) (z : Str) (m : Int), vs = [.ref W, .str z, .int m] ∧ 0 < z.length ∧ z.length ≤ 1000 ∧ 0 ≤ m ∧ m ≤ 1000 ∧ IsW H W ∧
  ∀ (t : List Nat) H', t.length = m.toNat → (∀ c ∈ t, c ∈ z.cps.toList) → Wx W H H' → Q (.str ⟨t.toArray⟩) H'
theorem ints_at {ns : List Int} {r : Int} (h0 : 0 ≤ r) (h1 : r < ns.length) : ∃ n, n ∈ ns ∧ atI (ns.map V.int) r = some (.int n) := by
  obtain ⟨v, hv, ev⟩ := atI_in (xs := ns.map V.int) h0 (by rw [List.length_map]; exact h1)
  obtain ⟨n, hn, rfl⟩ := List.mem_map.mp hv
  exact ⟨n, hn, ev⟩
theorem strs_at {ns : List Str} {r : Int} (h0 : 0 ≤ r) (h1 : r < ns.length) : ∃ n, n ∈ ns ∧ atI (ns.map V.str) r = some (.str n) := by
  obtain ⟨v, hv, ev⟩ := atI_in (xs := ns.map V.str) h0 (by rw [List.length_map]; exact h1)
  obtain ⟨n, hn, rfl⟩ := List.mem_map.mp hv
  exact ⟨n, hn, ev⟩
theorem mk_len (t : List Nat) : (⟨t.toArray⟩ : Str).length = t.length := List.size_toArray
def spText (b : Nat) : Sp := fun vs H Q _ => ∃ (W : Addr), vs = [.ref W] ∧ IsW H W ∧ ∀ t H', t.length ≤ b → Wx W H H' → Q (.str t) H'
theorem same_upd {H : Hp} {p : Addr} {o : HO} (h : H p = none) : Same H (upd H p o) := fun b x e => by
  rw [upd_ne (ne_of_none e h)]
  exact e
theorem same_mut {H H' : Hp} {p : Addr} {o : HO} (e : Same H H') (h : H p = none) : Same H (upd H' p o) := fun a u ha => by
  rw [upd_ne (ne_of_none ha h)]
  exact e a u ha
theorem take_map {α β : Type} {xs : List α} {i : Nat} {c : α} (f : α → β) (h : xs[i]? = some c) : (xs.take (i + 1)).map f = (xs.take i).map f ++ [f c] := by
  rw [List.take_add_one, h, List.map_append]
  rfl
theorem at_l {z : Str} {i c : Nat} (h : z.cps[i]? = some c) : z.cps.toList[i]? = some c := by
  rw [Array.getElem?_toList]
  exact h
theorem filter_take {α β : Type} {xs : List α} {i : Nat} {c : α} (p : α → Bool) (f : α → β) (h : xs[i]? = some c) : ((xs.take (i + 1)).filter p).map f = ((xs.take i).filter p).map f ++ (if p c = true then [f c] else []) := by
  rw [List.take_add_one, h, List.filter_append, List.map_append]
  by_cases hp : p c = true
  · rw [if_pos hp]
    simp [hp]
  · rw [if_neg hp]
    simp [hp]
theorem all_filter {α : Type} (p : α → Bool) (xs : List α) : ((xs.filter fun c => !p c)).isEmpty = xs.all p := by
  induction xs with
  | nil => rfl
  | cons a r ih =>
    cases h : p a with
    | true => simp only [List.filter_cons, h, List.all_cons, Bool.not_true, Bool.true_and]; exact ih
    | false => simp [List.filter_cons, h, List.all_cons]
theorem isEmpty_map {α β : Type} (f : α → β) (xs : List α) : (xs.map f).isEmpty = xs.isEmpty := by
  cases xs <;> rfl
theorem str_at {ss : List Str} {i : Nat} {x : V} (h : (ss.map V.str)[i]? = some x) : ∃ y, x = .str y ∧ ss[i]? = some y ∧ y ∈ ss := by
  rw [List.getElem?_map] at h
  cases e : ss[i]? with
  | none =>
    rw [e] at h
    cases h
  | some y =>
    rw [e] at h
    cases h
    exact ⟨y, rfl, rfl, List.mem_of_getElem? e⟩
theorem cutV_map {α : Type} (f : α → V) (ns : List α) (lo hi : Option Int) : ∃ ms : List α, cutV (ns.map f) lo hi = ms.map f ∧ ms.length ≤ ns.length := by
  refine ⟨(ns.drop (HT.sIx ns.length 0 lo)).take (HT.sIx ns.length ns.length hi - HT.sIx ns.length 0 lo), ?_, ?_⟩
  · unfold cutV
    rw [List.length_map, List.map_take, List.map_drop]
  · rw [List.length_take, List.length_drop]
    omega
theorem int_at {ns : List Int} {i : Nat} {x : V} (h : (ns.map V.int)[i]? = some x) : ∃ n, x = .int n := by
  rw [List.getElem?_map] at h
  cases e : ns[i]? with
  | none =>
    rw [e] at h
    cases h
  | some y =>
    rw [e] at h
    cases h
    exact ⟨y, rfl⟩
theorem dp_bools {K : PySem.W.Frag} {H : Hp} : ∀ bs : List Bool, DpAll K H (bs.map V.bl) (bs.map PyData.bool)
  | [] => .nil
  | b :: r => .cons (.bl b) (dp_bools r)
theorem lay_bools : ∀ bs : List Bool, PyData.canLayAll0 (bs.map PyData.bool) = true
  | [] => rfl
  | _ :: r => by simp [PyData.canLayAll0, PyData.canLay0, lay_bools r]
theorem depth_bools : ∀ bs : List Bool, PyData.depthAll (bs.map PyData.bool) = 0
  | [] => rfl
  | _ :: r => by simp [PyData.depthAll, PyData.depth, depth_bools r]
theorem shaped_bools (bs : List Bool) : SeqAt.shaped (.list (bs.map PyData.bool)) = true := by
  simp [SeqAt.shaped, PyData.canLay0, PyData.depth, lay_bools, depth_bools]
theorem eqv_bools (bs : List Bool) : PyData.eqv (.list (bs.map PyData.bool)) (.list (bs.map PyData.bool)) = true := SeqAt.eqv_refl _ (by simp [PyData.canLay0, lay_bools])
def spLaw (K : PySem.W.Frag) : Sp := fun vs H Q _ => ∃ (a : Addr) (ns : List Int), vs = [.ref a] ∧ SqL K H a (ns.map V.int) ∧ ns.length ≤ 63 ∧ ∀ H', Q (.bl true) H'
/-! ### sorted(xs) of data that are alike, any length: the items by letters of a type B, their values, their data -/
section
variable {B : Type} {val : B → V} {enc : B → PyData}
theorem vals_each : ∀ {bs : List B} {us : List Value}, Vals (bs.map val) us → PySem.W.EachIs (fun u b => RelV (val b) u) us bs
  | [], _, r => by
    cases r
    exact .nil
  | b :: bs, _, r => by
    cases r with
    | cons h t => exact .cons h (vals_each t)
theorem each_vals : ∀ {bs : List B} {us : List Value}, PySem.W.EachIs (fun u b => RelV (val b) u) us bs → Vals (bs.map val) us
  | _, _, .nil => .nil
  | _, _, .cons h t => .cons h (each_vals t)
theorem each_reads {X : Cx} {pins : List (Addr × Obj)} {σ : L2.St} {H : Hp} {s : Shared} (I : Inv X pins σ H s) : ∀ {bs : List B} {us : List Value}, (∀ b ∈ bs, Dp X.K H (val b) (enc b)) → PySem.W.EachIs (fun u b => RelV (val b) u) us bs → PySem.W.EachIs (fun u b => ∃ as, Reads s.heap u (enc b) as) us bs
  | _, _, _, .nil => .nil
  | _, _, hd, .cons h t => .cons (Dp.reads I _ _ _ (hd _ (List.mem_cons_self ..)) h) (each_reads I (fun b hb => hd b (List.mem_cons_of_mem _ hb)) t)
def sortB (enc : B → PyData) (bs : List B) : List B := bs.mergeSort (PySem.W.dataLe false enc)
def rSortB (K : PySem.W.Frag) (val : B → V) (enc : B → PyData) : List V → Hp → VK → Prop := fun vs H Q => ∃ (a : Addr) (bs : List B), vs = [V.ref a] ∧ SqL K H a (bs.map val) ∧ (∀ b ∈ bs, Dp K H (val b) (enc b)) ∧ PySem.W.AllAlike (bs.map enc) ∧ PySem.W.Sortable (bs.map enc) ∧
  (∀ b ∈ bs, (enc b).depth ≤ 60) ∧ ∀ p, H p = none → Q (.ref p) (upd H p (.lst ((sortB enc bs).map val)))
theorem cr_sortB {X : Cx} (val : B → V) (enc : B → PyData) (hu : X.A.units + 64 < cLine) : CallR X (.builtin "sorted") (rSortB X.K val enc) := by
  intro pins s σ H vs us Q I r h
  obtain ⟨a, bs, rfl, hs, hd, ha, hk, hdp, q⟩ := h
  obtain ⟨its, rv, hl, hz⟩ := I.list hs
  rw [Vals.ref1 r]
  have e1 := vals_each rv
  rw [List.length_map] at hz
  refine PySem.W.sorted_data (enc := enc) hl.isList e1 (each_reads I hd e1) ha hk hz (fun b hb => by have := hdp b hb; omega) fun out ho eo => ?_
  obtain ⟨ep, he'⟩ := PyProof.Rows.sortedAll_at s.heap its out.toArray
  have hlen : ((sortB enc bs).map val).length ≤ sizeLine := by
    rw [List.length_map]
    unfold sortB
    rw [List.length_mergeSort]
    exact hz
  exact ⟨.ref _, upd H (s.heap.objs.size + 1) (.lst ((sortB enc bs).map val)), I.laid (t' := s.toks) (fun _ _ => PyProof.Rows.sortedAll_old) (Nat.le_succ _) ⟨hlen, out, ep, each_vals eo, he'⟩, rfl, q _ (I.hok.fresh (Nat.le_succ _))⟩
theorem sortB_perm (enc : B → PyData) (bs : List B) : (sortB enc bs).Perm bs := List.mergeSort_perm ..
theorem sortB_sorted (enc : B → PyData) (bs : List B) : (sortB enc bs).Pairwise fun a b => PySem.W.dataLe false enc a b = true := PySem.W.sort_pairwise (PySem.W.sortLe_total _ _ _) bs
end
theorem perm_sorted_eq {α : Type} {r : α → α → Prop} (anti : ∀ a b, r a b → r b a → a = b) : ∀ A B : List α, A.Pairwise r → B.Pairwise r → A.Perm B → A = B
  | [], B, _, _, h => (List.Perm.nil_eq h)
  | a :: A, [], _, _, h => absurd h.length_eq (by simp)
  | a :: A, b :: B, ha, hb, h => by
    have e : a = b := by
      rcases List.mem_cons.mp (h.mem_iff.mp (List.mem_cons_self ..)) with e | e
      · exact e
      · rcases List.mem_cons.mp (h.mem_iff.mpr (List.mem_cons_self ..)) with e' | e'
        · exact e'.symm
        · exact anti a b ((List.pairwise_cons.mp ha).1 b e') ((List.pairwise_cons.mp hb).1 a e)
    subst e
    rw [perm_sorted_eq anti A B (List.pairwise_cons.mp ha).2 (List.pairwise_cons.mp hb).2 (List.Perm.cons_inv h)]
/-! ### pairs of texts, in order -/
def ltS (a b : Str) : Prop := a.cps.toList < b.cps.toList
instance (a b : Str) : Decidable (ltS a b) := inferInstanceAs (Decidable (a.cps.toList < b.cps.toList))
theorem ltS_irr (a : Str) : ¬ ltS a a := List.lt_irrefl _
theorem ltS_trans {a b c : Str} (h : ltS a b) (h2 : ltS b c) : ltS a c := List.lt_trans h h2
theorem ltS_tri (a b : Str) : ltS a b ∨ a = b ∨ ltS b a := by
  by_cases h : ltS a b
  · exact .inl h
  · by_cases h2 : ltS b a
    · exact .inr (.inr h2)
    · exact .inr (.inl (PyProof.Rows.ext_toList (List.le_antisymm (List.not_lt.mp h2) (List.not_lt.mp h))))
def leSS (p q : Str × Str) : Prop := ltS p.1 q.1 ∨ (p.1 = q.1 ∧ ¬ ltS q.2 p.2)
theorem leSS_anti (p q : Str × Str) (h : leSS p q) (h2 : leSS q p) : p = q := by
  obtain ⟨a, b⟩ := p
  obtain ⟨c, d⟩ := q
  rcases h with h | ⟨e, h⟩
  · rcases h2 with h2 | ⟨e2, h2⟩
    · exact absurd (ltS_trans h h2) (ltS_irr _)
    · have e2' : c = a := e2
      subst e2'
      exact absurd h (ltS_irr _)
  · have e' : a = c := e
    subst e'
    rcases h2 with h2 | ⟨e2, h2⟩
    · exact absurd h2 (ltS_irr _)
    · rcases ltS_tri b d with x | x | x
      · exact absurd x h2
      · rw [x]
      · exact absurd x h
theorem dataLe_ss {B : Type} (x y : B → Str) (p q : B) (h : PySem.W.dataLe false (fun b => .tuple [.str (x b), .str (y b)]) p q = true) : leSS (x p, y p) (x q, y q) := by
  have e : PySem.W.dataLt (.tuple [.str (x q), .str (y q)]) (.tuple [.str (x p), .str (y p)]) = false := by
    have h' : (!PySem.W.dataLt (.tuple [.str (x q), .str (y q)]) (.tuple [.str (x p), .str (y p)])) = true := h
    simpa using h'
  rw [PySem.W.dataLt_pair (by simp [PySem.W.alike]) (by simp [PySem.W.alike]), PySem.W.dataLt_str, PySem.W.dataLt_str] at e
  simp only [PyData.eqv, beq_iff_eq] at e
  by_cases h1 : x q = x p
  · rw [if_pos h1] at e
    by_cases h2 : y q = y p
    · refine .inr ⟨h1.symm, fun z => ?_⟩
      have z' : ltS (y q) (y p) := z
      rw [h2] at z'
      exact ltS_irr _ z'
    · rw [if_neg h2] at e
      exact .inr ⟨h1.symm, of_decide_eq_false e⟩
  · rw [if_neg h1] at e
    rcases ltS_tri (x p) (x q) with z | z | z
    · exact .inl z
    · exact absurd z.symm h1
    · exact absurd z (of_decide_eq_false e)
end My
namespace My
open PySem PySem.Spec PyProof.Rows L2 TL
def Asc (z : Str) : Prop := ∀ c ∈ z.cps.toList, c < 128
instance (z : Str) : Decidable (Asc z) := inferInstanceAs (Decidable (∀ c ∈ z.cps.toList, c < 128))
theorem asc_mk {t : List Nat} (h : ∀ c ∈ t, c < 128) : Asc ⟨t.toArray⟩ := fun c hc => h c (by simpa using hc)
theorem asc_app {a b : Str} (ha : Asc a) (hb : Asc b) : Asc (a ++ b) := by
  intro c hc
  have e : (a ++ b).cps.toList = a.cps.toList ++ b.cps.toList := Array.toList_append
  rw [e] at hc
  rcases List.mem_append.mp hc with h | h
  · exact ha c h
  · exact hb c h
theorem asc_cut {z : Str} (h : Asc z) (lo hi : Option Int) : Asc (cutS z lo hi) := by
  refine asc_mk fun c hc => h c ?_
  exact List.mem_of_mem_drop (List.mem_of_mem_take hc)
theorem inV_strs (x : Str) (F : List Str) : inV (.str x) (F.map V.str) = decide (x ∈ F) := by
  unfold inV
  rw [List.any_map, Bool.eq_iff_iff, List.any_eq_true, decide_eq_true_iff]
  constructor
  · rintro ⟨y, hy, e⟩
    have e' : (y == x) = true := e
    rw [← eq_of_beq e']
    exact hy
  · intro h
    exact ⟨x, h, by show (x == x) = true; exact beq_self_eq_true x⟩
theorem flat_strs (F : List Str) : (F.map V.str).all flatV = true := by
  rw [List.all_map, List.all_eq_true]
  intro x _
  rfl
/-! ### texts as data -/
theorem dp_strs {K : PySem.W.Frag} {H : Hp} : ∀ F : List Str, DpAll K H (F.map V.str) (F.map PyData.str)
  | [] => .nil
  | b :: r => .cons (.str b) (dp_strs r)
theorem ok_asc {z : Str} (h : Asc z) : PyData.strOk z = true := by
  unfold PyData.strOk
  rw [Array.all_eq_true']
  intro c hc
  have : c < 128 := h c (by simpa using hc)
  exact decide_eq_true (by omega)
theorem lay_strs : ∀ F : List Str, (∀ z ∈ F, Asc z) → PyData.canLayAll0 (F.map PyData.str) = true
  | [], _ => rfl
  | z :: r, h => by simp [PyData.canLayAll0, PyData.canLay0, ok_asc (h z (List.mem_cons_self ..)), lay_strs r fun y hy => h y (List.mem_cons_of_mem _ hy)]
theorem depth_strs : ∀ F : List Str, PyData.depthAll (F.map PyData.str) = 0
  | [] => rfl
  | _ :: r => by simp [PyData.depthAll, PyData.depth, depth_strs r]
theorem shaped_strs (F : List Str) (h : ∀ z ∈ F, Asc z) : SeqAt.shaped (.list (F.map PyData.str)) = true := by
  simp [SeqAt.shaped, PyData.canLay0, PyData.depth, lay_strs F h, depth_strs]
end My
namespace My
open PySem PySem.Spec PyProof.Rows L2 TL
/-! ### a list or a tuple, whichever stands there -/
def IsS (H : Hp) (a : Addr) (xs : List V) : Prop := H a = some (.lst xs) ∨ H a = some (.tup xs)
theorem IsS.mono {H H' : Hp} {a : Addr} {xs : List V} (e : Same H H') (h : IsS H a xs) : IsS H' a xs := h.elim (fun h => .inl (e _ _ h)) fun h => .inr (e _ _ h)
theorem IsS.or {K : PySem.W.Frag} {H : Hp} {a : Addr} {xs : List V} (h : IsS H a xs) : SqL K H a xs ∨ SqT K H a xs := h.elim (fun h => .inl (SqL.of h)) fun h => .inr (SqT.of h)
theorem IsS.eq {H H' : Hp} {a : Addr} {xs : List V} (e : Same H H') (h : IsS H a xs) : H' a = H a := h.elim (fun h => (e _ _ h).trans h.symm) fun h => (e _ _ h).trans h.symm
def iSeq (K : PySem.W.Frag) (tl : TE) : TI := fun σ H R => tl σ H fun x H1 => ∃ a, x = .ref a ∧ (((∃ xs, SqL K H1 a xs) ∧ R (Itl K a) H1) ∨ ((∃ xs, SqT K H1 a xs) ∧ R (Itt K a) H1))
theorem pi_seq {X : Cx} {tg l : Expr} {tl : TE} (hl : PE X l tl) : PI X tg l (iSeq X.K tl) := by
  refine ⟨fun pins s σ H R I h => ?_⟩
  refine thn (hl.run pins s σ H _ I h) fun v s1 ⟨x, H1, I1, r1, q1⟩ => ?_
  obtain ⟨a, e, q1⟩ := q1
  subst e
  cases r1
  rcases q1 with ⟨⟨xs, hq⟩, q⟩ | ⟨⟨xs, hq⟩, q⟩
  · obtain ⟨its, rv, p, hz⟩ := I1.list hq
    refine wpAny_pyIter_list p.isList ?_
    refine ⟨s1.heap.objs.size, [s1.heap.objs.size], _, _, H1, rfl, I1.kept (t' := s1.toks) fun b o e => Heap.get?_push_of_some _ e, turn_list a _, ⟨_, Heap.get?_push_size _ rfl, rfl, rfl⟩, fun b hb => ?_, q⟩
    have e : b = s1.heap.objs.size := by simpa using hb
    subst e
    exact I1.fpOk (Nat.le_refl _) (I1.hok.fresh (Nat.le_refl _))
  · obtain ⟨its, rv, p, hz⟩ := I1.tuple hq
    refine wpAny_pyIter_tuple (show s1.heap.IsTuple a its.toArray from p) ?_
    refine ⟨s1.heap.objs.size, [s1.heap.objs.size], _, _, H1, rfl, I1.kept (t' := s1.toks) fun b o e => Heap.get?_push_of_some _ e, turn_tuple a _, ⟨_, Heap.get?_push_size _ rfl, rfl, rfl⟩, fun b hb => ?_, q⟩
    have e : b = s1.heap.objs.size := by simpa using hb
    subst e
    exact I1.fpOk (Nat.le_refl _) (I1.hok.fresh (Nat.le_refl _))
/-- a comprehension over either -/
theorem lc_seq {K : PySem.W.Frag} {a : Addr} {xs : List V} {g : TG} {tt : TT} {te : TE} {vs : List Nat} {σ : L2.St} {H1 : Hp} {Qd : Addr → Hp → Prop} (h : IsS H1 a xs) (Pv : Addr → Nat → Hp → Prop) (h0 : ∀ D, H1 D = none → Pv D 0 (upd H1 D (.lst [])))
    (hl : ∀ D i H, H1 D = none → i ≤ xs.length → Pv D i H → H a = H1 a)
    (hs : ∀ D i x H, H1 D = none → xs[i]? = some x → Pv D i H → g x (wipe σ vs) H fun σ2 H2 => wipe σ2 vs = wipe σ vs ∧ tt σ2 H2 fun b H3 =>
      if b = true then te σ2 H3 fun y H4 => ∃ acc, H4 D = some (.lst acc) ∧ acc.length < sizeLine ∧ Pv D (i + 1) (upd H4 D (.lst (acc ++ [y]))) else Pv D (i + 1) H3) (hd : ∀ D H, H1 D = none → Pv D xs.length H → Qd D H) :
    ((∃ xs, SqL K H1 a xs) ∧ ∀ D, H1 D = none → ∃ W : Nat → Nat → Hp → Prop, (∃ m, W 0 m (upd H1 D (.lst []))) ∧ ∀ i m H, W i m H →
      ((Itl K a).stop i H ∧ Qd D H) ∨ ((Itl K a).go i H ∧ ∃ Nx : Hp → Prop, (∀ H', Nx H' → ∃ m', m' < m ∧ W (i + 1) m' H') ∧ ∀ x H', (Itl K a).yld i H x H' → g x (wipe σ vs) H' fun σ2 H2 => wipe σ2 vs = wipe σ vs ∧ tt σ2 H2 fun b H3 =>
        if b = true then te σ2 H3 fun y H4 => ∃ acc, H4 D = some (.lst acc) ∧ acc.length < sizeLine ∧ Nx (upd H4 D (.lst (acc ++ [y]))) else Nx H3)) ∨
    ((∃ xs, SqT K H1 a xs) ∧ ∀ D, H1 D = none → ∃ W : Nat → Nat → Hp → Prop, (∃ m, W 0 m (upd H1 D (.lst []))) ∧ ∀ i m H, W i m H →
      ((Itt K a).stop i H ∧ Qd D H) ∨ ((Itt K a).go i H ∧ ∃ Nx : Hp → Prop, (∀ H', Nx H' → ∃ m', m' < m ∧ W (i + 1) m' H') ∧ ∀ x H', (Itt K a).yld i H x H' → g x (wipe σ vs) H' fun σ2 H2 => wipe σ2 vs = wipe σ vs ∧ tt σ2 H2 fun b H3 =>
        if b = true then te σ2 H3 fun y H4 => ∃ acc, H4 D = some (.lst acc) ∧ acc.length < sizeLine ∧ Nx (upd H4 D (.lst (acc ++ [y]))) else Nx H3)) := by
  rcases h with h | h
  · exact .inl ⟨⟨_, SqL.of h⟩, fun D hD => lc_list (xs := xs) (Pv D) (h0 D hD) (fun i H hi pv => SqL.of ((hl D i H hD hi pv).trans h)) (fun i x H hx pv => hs D i x H hD hx pv) fun H pv => hd D H hD pv⟩
  · exact .inr ⟨⟨_, SqT.of h⟩, fun D hD => lc_tup (xs := xs) (Pv D) (h0 D hD) (fun i H hi pv => SqT.of ((hl D i H hD hi pv).trans h)) (fun i x H hx pv => hs D i x H hD hx pv) fun H pv => hd D H hD pv⟩
theorem rix_of {K : PySem.W.Frag} {H : Hp} {a : Addr} {xs : List V} {i : Int} {v : V} {Q : VK} (h : IsS H a xs) (e : atI xs i = some v) (q : Q v H) : rIx K (.ref a) (.int i) H Q :=
  h.elim (fun h => .inl ⟨a, xs, i, v, rfl, rfl, SqL.of h, e, q⟩) fun h => .inr (.inl ⟨a, xs, i, v, rfl, rfl, SqT.of h, e, q⟩)
end My
namespace My
open PySem PySem.Spec PyProof.Rows L2 TL
def topS (i : Nat) : Stmt := PySem.Challenge.pw_pagelodge_k06_parts_place_by_place.main.body.getD i (.Pass ⟨0, 0, 0, 0⟩)
abbrev s_weight : Stmt := topS 1
theorem sc_weight : FnScope ["parts", "start", "signs"] ["parts"] (defScope s_weight) := ⟨rfl, rfl, rfl, by decide +kernel, rfl, by decide +kernel, by decide +kernel⟩
abbrev s_told_by : Stmt := topS 2
theorem sc_told_by : FnScope ["parts", "start", "signs"] ["parts"] (defScope s_told_by) := ⟨rfl, rfl, rfl, by decide +kernel, rfl, by decide +kernel, by decide +kernel⟩
abbrev s_untold_by : Stmt := topS 3
theorem sc_untold_by : FnScope ["parts", "size", "found", "at", "start", "stop"] ["parts", "size"] (defScope s_untold_by) := ⟨rfl, rfl, rfl, by decide +kernel, rfl, by decide +kernel, by decide +kernel⟩
abbrev s_meetings : Stmt := topS 4
theorem sc_meetings : FnScope ["ones", "others", "found", "at", "beside", "start", "stop"] ["ones", "others"] (defScope s_meetings) := ⟨rfl, rfl, rfl, by decide +kernel, rfl, by decide +kernel, by decide +kernel⟩
abbrev s_lacking : Stmt := topS 5
theorem sc_lacking : FnScope ["wanted", "parts", "untold", "at", "start", "stop"] ["wanted", "parts"] (defScope s_lacking) := ⟨rfl, rfl, rfl, by decide +kernel, rfl, by decide +kernel, by decide +kernel⟩
abbrev s_cut : Stmt := topS 6
theorem sc_cut : FnScope ["parts", "wanted", "found", "at", "start", "stop", "first", "signs"] ["parts", "wanted"] (defScope s_cut) := ⟨rfl, rfl, rfl, by decide +kernel, rfl, by decide +kernel, by decide +kernel⟩
abbrev s_joined : Stmt := topS 7
theorem sc_joined : FnScope ["ones", "others", "rest", "found", "start", "signs"] ["ones", "others"] (defScope s_joined) := ⟨rfl, rfl, rfl, by decide +kernel, rfl, by decide +kernel, by decide +kernel⟩
abbrev s_law_well : Stmt := topS 9
theorem sc_law_well : FnScope ["_law_cell"] ["_law_cell"] (defScope s_law_well) := ⟨rfl, rfl, rfl, by decide +kernel, rfl, by decide +kernel, by decide +kernel⟩
abbrev s_law_draw : Stmt := topS 10
theorem sc_law_draw : FnScope ["_law_well_here", "_law_many", "_law_found", "_law_number"] ["_law_well_here", "_law_many"] (defScope s_law_draw) := ⟨rfl, rfl, rfl, by decide +kernel, rfl, by decide +kernel, by decide +kernel⟩
abbrev s_law_great : Stmt := topS 11
theorem sc_law_great : FnScope ["_law_well_here", "_law_found", "_law_k"] ["_law_well_here"] (defScope s_law_great) := ⟨rfl, rfl, rfl, by decide +kernel, rfl, by decide +kernel, by decide +kernel⟩
abbrev s_law_truths : Stmt := topS 12
theorem sc_law_truths : FnScope ["_law_well_here", "_law_many", "_law_lot", "_law_found", "_law_told", "_law_k"] ["_law_well_here", "_law_many"] (defScope s_law_truths) := ⟨rfl, rfl, rfl, by decide +kernel, rfl, by decide +kernel, by decide +kernel⟩
abbrev s_law_any_signs : Stmt := topS 13
theorem sc_law_any_signs : FnScope ["_law_well_here", "_law_many", "_law_some", "_law_k"] ["_law_well_here", "_law_many"] (defScope s_law_any_signs) := ⟨rfl, rfl, rfl, by decide +kernel, rfl, by decide +kernel, by decide +kernel⟩
abbrev s_law_parts : Stmt := topS 14
theorem sc_law_parts : FnScope ["_law_signs", "_law_truths_here", "_law_far", "_law_found", "_law_k"] ["_law_signs", "_law_truths_here", "_law_far"] (defScope s_law_parts) := ⟨rfl, rfl, rfl, by decide +kernel, rfl, by decide +kernel, by decide +kernel⟩
abbrev s_law_runs : Stmt := topS 15
theorem sc_law_runs : FnScope ["_law_truths_here", "_law_far", "_law_some", "_law_at", "_law_word"] ["_law_truths_here", "_law_far"] (defScope s_law_runs) := ⟨rfl, rfl, rfl, by decide +kernel, rfl, by decide +kernel, by decide +kernel⟩
abbrev s_law_is_parts : Stmt := topS 16
theorem sc_law_is_parts : FnScope ["_law_found", "_law_one"] ["_law_found"] (defScope s_law_is_parts) := ⟨rfl, rfl, rfl, by decide +kernel, rfl, by decide +kernel, by decide +kernel⟩
abbrev s_law_is_runs : Stmt := topS 17
theorem sc_law_is_runs : FnScope ["_law_found", "_law_one", "_law_number"] ["_law_found"] (defScope s_law_is_runs) := ⟨rfl, rfl, rfl, by decide +kernel, rfl, by decide +kernel, by decide +kernel⟩
abbrev s_law_handed : Stmt := topS 18
theorem sc_law_handed : FnScope ["_law_some", "_law_kind"] ["_law_some", "_law_kind"] (defScope s_law_handed) := ⟨rfl, rfl, rfl, by decide +kernel, rfl, by decide +kernel, by decide +kernel⟩
abbrev s_law_second : Stmt := topS 19
theorem sc_law_second : FnScope ["_law_well_here", "_law_signs", "_law_lot", "_law_at", "_law_other"] ["_law_well_here", "_law_signs"] (defScope s_law_second) := ⟨rfl, rfl, rfl, by decide +kernel, rfl, by decide +kernel, by decide +kernel⟩
abbrev s_law_asked : Stmt := topS 20
theorem sc_law_asked : FnScope ["_law_handed_here", "_law_one", "_law_other", "_law_runs_here"] ["_law_handed_here"] (defScope s_law_asked) := ⟨rfl, rfl, rfl, by decide +kernel, rfl, by decide +kernel, by decide +kernel⟩
abbrev s_law_due : Stmt := topS 21
theorem sc_law_due : FnScope ["_law_has", "_law_first", "_law_second_here", "_law_far", "_law_many", "_law_either", "_law_mine", "_law_theirs", "_law_least", "_law_shared", "_law_found", "_law_k"] ["_law_has", "_law_first", "_law_second_here", "_law_far"] (defScope s_law_due) := ⟨rfl, rfl, rfl, by decide +kernel, rfl, by decide +kernel, by decide +kernel⟩
abbrev s_law : Stmt := topS 22
theorem sc_law : FnScope ["_law_script", "_law_cell", "_law_well_here", "_law_kind", "_law_many", "_law_far", "_law_has", "_law_first", "_law_second_here", "_law_rows", "_law_handed_here", "_law_found", "_law_due_here", "_law_one", "_law_heavy", "_law_k", "_law_some", "_law_row"] ["_law_script"] (defScope s_law) := ⟨rfl, rfl, rfl, by decide +kernel, rfl, by decide +kernel, by decide +kernel⟩
structure Def (K : PySem.W.Frag) (mg : Str → Option Value) (x : Str) (st : Stmt) (ps : List Str) (f : Addr) (fd : FuncData) : Prop where
  F : Fun K x x st f fd
  b : Binds K fd ps []
  g : mg x = some (.ref f)
structure Txt (K : PySem.W.Frag) (mg : Str → Option Value) where
  f_weight : Addr
  fd_weight : FuncData
  d_weight : Def K mg "weight" s_weight ["parts"] f_weight fd_weight
  f_told_by : Addr
  fd_told_by : FuncData
  d_told_by : Def K mg "told_by" s_told_by ["parts"] f_told_by fd_told_by
  f_untold_by : Addr
  fd_untold_by : FuncData
  d_untold_by : Def K mg "untold_by" s_untold_by ["parts", "size"] f_untold_by fd_untold_by
  f_meetings : Addr
  fd_meetings : FuncData
  d_meetings : Def K mg "meetings" s_meetings ["ones", "others"] f_meetings fd_meetings
  f_lacking : Addr
  fd_lacking : FuncData
  d_lacking : Def K mg "lacking" s_lacking ["wanted", "parts"] f_lacking fd_lacking
  f_cut : Addr
  fd_cut : FuncData
  d_cut : Def K mg "cut" s_cut ["parts", "wanted"] f_cut fd_cut
  f_joined : Addr
  fd_joined : FuncData
  d_joined : Def K mg "joined" s_joined ["ones", "others"] f_joined fd_joined
  f_law_well : Addr
  fd_law_well : FuncData
  d_law_well : Def K mg "_law_well" s_law_well ["_law_cell"] f_law_well fd_law_well
  f_law_draw : Addr
  fd_law_draw : FuncData
  d_law_draw : Def K mg "_law_draw" s_law_draw ["_law_well_here", "_law_many"] f_law_draw fd_law_draw
  f_law_great : Addr
  fd_law_great : FuncData
  d_law_great : Def K mg "_law_great" s_law_great ["_law_well_here"] f_law_great fd_law_great
  f_law_truths : Addr
  fd_law_truths : FuncData
  d_law_truths : Def K mg "_law_truths" s_law_truths ["_law_well_here", "_law_many"] f_law_truths fd_law_truths
  f_law_any_signs : Addr
  fd_law_any_signs : FuncData
  d_law_any_signs : Def K mg "_law_any_signs" s_law_any_signs ["_law_well_here", "_law_many"] f_law_any_signs fd_law_any_signs
  f_law_parts : Addr
  fd_law_parts : FuncData
  d_law_parts : Def K mg "_law_parts" s_law_parts ["_law_signs", "_law_truths_here", "_law_far"] f_law_parts fd_law_parts
  f_law_runs : Addr
  fd_law_runs : FuncData
  d_law_runs : Def K mg "_law_runs" s_law_runs ["_law_truths_here", "_law_far"] f_law_runs fd_law_runs
  f_law_is_parts : Addr
  fd_law_is_parts : FuncData
  d_law_is_parts : Def K mg "_law_is_parts" s_law_is_parts ["_law_found"] f_law_is_parts fd_law_is_parts
  f_law_is_runs : Addr
  fd_law_is_runs : FuncData
  d_law_is_runs : Def K mg "_law_is_runs" s_law_is_runs ["_law_found"] f_law_is_runs fd_law_is_runs
  f_law_handed : Addr
  fd_law_handed : FuncData
  d_law_handed : Def K mg "_law_handed" s_law_handed ["_law_some", "_law_kind"] f_law_handed fd_law_handed
  f_law_second : Addr
  fd_law_second : FuncData
  d_law_second : Def K mg "_law_second" s_law_second ["_law_well_here", "_law_signs"] f_law_second fd_law_second
  f_law_asked : Addr
  fd_law_asked : FuncData
  d_law_asked : Def K mg "_law_asked" s_law_asked ["_law_handed_here"] f_law_asked fd_law_asked
  f_law_due : Addr
  fd_law_due : FuncData
  d_law_due : Def K mg "_law_due" s_law_due ["_law_has", "_law_first", "_law_second_here", "_law_far"] f_law_due fd_law_due
  f_law : Addr
  fd_law : FuncData
  d_law : Def K mg "law" s_law ["_law_script"] f_law fd_law
  m_bool : mg "bool" = none
  m_int : mg "int" = none
  m_isinstance : mg "isinstance" = none
  m_len : mg "len" = none
  m_list : mg "list" = none
  m_max : mg "max" = none
  m_min : mg "min" = none
  m_range : mg "range" = none
  m_sorted : mg "sorted" = none
  m_str : mg "str" = none
  m_sum : mg "sum" = none
  m_tuple : mg "tuple" = none
/-! ### spans -/
abbrev Spn := Option Int × Option Int
def oV : Option Int → V
  | none => .non
  | some n => .int n
/-- a span in the heap -/
def PS2 (H : Hp) (v : V) (sp : Spn) : Prop := ∃ t : Addr, v = .ref t ∧ H t = some (.tup [oV sp.1, oV sp.2])
theorem PS2.mono {H H' : Hp} {v : V} {sp : Spn} (e : Same H H') (h : PS2 H v sp) : PS2 H' v sp := by
  obtain ⟨t, rfl, h⟩ := h
  exact ⟨t, rfl, e _ _ h⟩
theorem paired_at {α β : Type} {R : α → β → Prop} : ∀ {a : List α} {b : List β}, Paired R a b → ∀ {i : Nat} {x : α}, a[i]? = some x → ∃ y, b[i]? = some y ∧ R x y
  | _, _, .nil, i, x, h => by simp at h
  | _, _, .cons (a := u) (b := v) r t, 0, x, h => by
    cases h
    exact ⟨v, rfl, r⟩
  | _, _, .cons r t, i + 1, x, h => paired_at t h
theorem ps2s_mono {H H' : Hp} {xs : List V} {rs : List Spn} (e : Same H H') (h : Paired (PS2 H) xs rs) : Paired (PS2 H') xs rs := Paired.mono (fun _ _ => PS2.mono e) h
theorem PS2.upd {H : Hp} {D : Addr} {u o : HO} {v : V} {sp : Spn} (hD : H D = some u) (hu : ∀ xs, u ≠ .tup xs) (h : PS2 H v sp) : PS2 (upd H D o) v sp := by
  obtain ⟨t, rfl, h⟩ := h
  refine ⟨t, rfl, ?_⟩
  rw [upd_ne]
  · exact h
  · intro z
    rw [z, hD] at h
    exact hu _ (Option.some.inj h)
theorem ps2s_upd {H : Hp} {D : Addr} {u o : HO} {xs : List V} {rs : List Spn} (hD : H D = some u) (hu : ∀ xs, u ≠ .tup xs) (h : Paired (PS2 H) xs rs) : Paired (PS2 (upd H D o)) xs rs := Paired.mono (fun _ _ => PS2.upd hD hu) h
theorem PS2.wx {W : Addr} {H H' : Hp} {v : V} {sp : Spn} (hI : IsW H W) (x : Wx W H H') (h : PS2 H v sp) : PS2 H' v sp := by
  obtain ⟨t, rfl, h⟩ := h
  refine ⟨t, rfl, x.keep t _ (fun z => ?_) h⟩
  obtain ⟨a, b, c, hw⟩ := hI
  rw [z, hw] at h
  cases h
theorem ps2s_wx {W : Addr} {H H' : Hp} {xs : List V} {rs : List Spn} (hI : IsW H W) (x : Wx W H H') (h : Paired (PS2 H) xs rs) : Paired (PS2 H') xs rs := Paired.mono (fun _ _ => PS2.wx hI x) h
theorem paired_app {α β : Type} {R : α → β → Prop} : ∀ {a : List α} {b : List β} {c : List α} {d : List β}, Paired R a b → Paired R c d → Paired R (a ++ c) (b ++ d)
  | _, _, _, _, .nil, h => h
  | _, _, _, _, .cons x t, h => .cons x (paired_app t h)
theorem paired_set {α β : Type} {R : α → β → Prop} {x : α} {y : β} (r : R x y) : ∀ {a : List α} {b : List β} (n : Nat), Paired R a b → Paired R (a.set n x) (b.set n y)
  | _, _, _, .nil => .nil
  | _, _, 0, .cons _ t => .cons r t
  | _, _, n + 1, .cons q t => .cons q (paired_set r n t)
/-! ### spans as data -/
def od : Option Int → PyData
  | none => .none
  | some n => .int n
def sd (sp : Spn) : PyData := .tuple [od sp.1, od sp.2]
theorem dp_od {K : PySem.W.Frag} {H : Hp} (x : Option Int) : Dp K H (oV x) (od x) := by
  cases x with
  | none => exact .non
  | some n => exact .int n
theorem dp_sps {K : PySem.W.Frag} {H : Hp} : ∀ {xs : List V} {rs : List Spn}, Paired (PS2 H) xs rs → DpAll K H xs (rs.map sd)
  | _, _, .nil => .nil
  | _, _, .cons h t => by
    obtain ⟨a, rfl, h⟩ := h
    exact .cons (.tup (SqT.of h) (.cons (dp_od _) (.cons (dp_od _) .nil))) (dp_sps t)
theorem lay_od (x : Option Int) : PyData.canLay0 (od x) = true := by cases x <;> simp [od, PyData.canLay0]
theorem depth_od (x : Option Int) : PyData.depth (od x) = 0 := by cases x <;> simp [od, PyData.depth]
theorem lay_sps : ∀ rs : List Spn, PyData.canLayAll0 (rs.map sd) = true
  | [] => rfl
  | r :: t => by simp [PyData.canLayAll0, PyData.canLay0, sd, lay_od, lay_sps t]
theorem depth_sps : ∀ rs : List Spn, PyData.depthAll (rs.map sd) ≤ 1
  | [] => Nat.zero_le _
  | r :: t => by
    have := depth_sps t
    simp only [List.map_cons, PyData.depthAll, sd, PyData.depth, depth_od]
    show max _ _ ≤ 1
    have e : max 0 (max 0 0) + 1 = 1 := rfl
    omega
theorem shaped_sps (rs : List Spn) : SeqAt.shaped (.list (rs.map sd)) = true := by
  have := depth_sps rs
  simp only [SeqAt.shaped, PyData.canLay0, PyData.depth, lay_sps rs, Bool.true_and]
  exact decide_eq_true (by omega)
theorem eqv_sps (rs : List Spn) : PyData.eqv (.list (rs.map sd)) (.list (rs.map sd)) = true := SeqAt.eqv_refl _ (by simp [PyData.canLay0, lay_sps rs])
theorem kit2 {K : PySem.W.Frag} {n m : String} {b : Bool} (h : kitB n m = some b) : PySem.W.kitOne K (.type n) (.type m) = some b := kit_ty h

/-! ### stretches, parts and meetings in the heap -/
def iv (p : Int × Int) : Spn := (some p.1, some p.2)
abbrev Prt := Int × Str
def PT2 (H : Hp) (v : V) (p : Prt) : Prop := ∃ t : Addr, v = .ref t ∧ H t = some (.tup [.int p.1, .str p.2])
def PM3 (H : Hp) (v : V) (p : Nat × Int × Int) : Prop := ∃ t : Addr, v = .ref t ∧ H t = some (.tup [.int p.1, .int p.2.1, .int p.2.2])
theorem PT2.mono {H H' : Hp} {v : V} {p : Prt} (e : Same H H') (h : PT2 H v p) : PT2 H' v p := by
  obtain ⟨t, rfl, h⟩ := h
  exact ⟨t, rfl, e _ _ h⟩
theorem PM3.mono {H H' : Hp} {v : V} {p : Nat × Int × Int} (e : Same H H') (h : PM3 H v p) : PM3 H' v p := by
  obtain ⟨t, rfl, h⟩ := h
  exact ⟨t, rfl, e _ _ h⟩
theorem pt2s_mono {H H' : Hp} {xs : List V} {ps : List Prt} (e : Same H H') (h : Paired (PT2 H) xs ps) : Paired (PT2 H') xs ps := Paired.mono (fun _ _ => PT2.mono e) h
theorem pm3s_mono {H H' : Hp} {xs : List V} {ps : List (Nat × Int × Int)} (e : Same H H') (h : Paired (PM3 H) xs ps) : Paired (PM3 H') xs ps := Paired.mono (fun _ _ => PM3.mono e) h
theorem tup_upd {H : Hp} {D t : Addr} {u o : HO} {ys : List V} (hD : H D = some u) (hu : ∀ xs, u ≠ .tup xs) (h : H t = some (.tup ys)) : (upd H D o) t = some (.tup ys) := by
  rw [upd_ne]
  · exact h
  · intro z
    rw [z, hD] at h
    exact hu _ (Option.some.inj h)
theorem pt2s_upd {H : Hp} {D : Addr} {u o : HO} {xs : List V} {ps : List Prt} (hD : H D = some u) (hu : ∀ xs, u ≠ .tup xs) (h : Paired (PT2 H) xs ps) : Paired (PT2 (upd H D o)) xs ps := Paired.mono (fun _ _ ⟨t, e, h⟩ => ⟨t, e, tup_upd hD hu h⟩) h
theorem pm3s_upd {H : Hp} {D : Addr} {u o : HO} {xs : List V} {ps : List (Nat × Int × Int)} (hD : H D = some u) (hu : ∀ xs, u ≠ .tup xs) (h : Paired (PM3 H) xs ps) : Paired (PM3 (upd H D o)) xs ps := Paired.mono (fun _ _ ⟨t, e, h⟩ => ⟨t, e, tup_upd hD hu h⟩) h
/-! ### what the defs reckon -/
def tb (p : Prt) : Int × Int := (p.1, p.1 + (p.2.length : Int))
def unt (a : Int) (size : Int) : List (Int × Int) → List (Int × Int)
  | [] => if a < size then [(a, size)] else []
  | u :: r => (if a < u.1 then [(a, u.1)] else []) ++ unt u.2 size r
def mx (i j : Int) : Int := if j > i then j else i
def mn (i j : Int) : Int := if j < i then j else i
def hit (k : Nat) (a b : Int × Int) : List (Nat × Int × Int) := if mx a.1 b.1 < mn a.2 b.2 then [(k, mx a.1 b.1, mn a.2 b.2)] else []
def meetF : Nat → List (Int × Int) → List (Int × Int) → Nat → List (Nat × Int × Int)
  | 0, _, _, _ => []
  | _ + 1, [], _, _ => []
  | _ + 1, _ :: _, [], _ => []
  | n + 1, a :: A, b :: B, k => hit k a b ++ (if a.2 ≤ b.2 then meetF n A (b :: B) (k + 1) else meetF n (a :: A) B k)
def meet (A B : List (Int × Int)) : List (Nat × Int × Int) := meetF (A.length + B.length) A B 0
theorem meetF_nil1 (n : Nat) (B : List (Int × Int)) (k : Nat) : meetF n [] B k = [] := by cases n <;> rfl
theorem meetF_nil2 (n : Nat) (A : List (Int × Int)) (k : Nat) : meetF n A [] k = [] := by
  cases n with
  | zero => rfl
  | succ n => cases A <;> rfl
theorem meetF_cons (n : Nat) (a b : Int × Int) (A B : List (Int × Int)) (k : Nat) : meetF (n + 1) (a :: A) (b :: B) k = hit k a b ++ (if a.2 ≤ b.2 then meetF n A (b :: B) (k + 1) else meetF n (a :: A) B k) := rfl
theorem meetF_len : ∀ (n : Nat) (A B : List (Int × Int)) (k : Nat), (meetF n A B k).length ≤ n
  | 0, _, _, _ => Nat.le_refl _
  | n + 1, [], _, _ => Nat.zero_le _
  | n + 1, _ :: _, [], _ => Nat.zero_le _
  | n + 1, a :: A, b :: B, k => by
    rw [meetF_cons, List.length_append]
    have h1 : (hit k a b).length ≤ 1 := by
      unfold hit
      split <;> simp
    have h2 := meetF_len n A (b :: B) (k + 1)
    have h3 := meetF_len n (a :: A) B k
    split <;> omega
/-! ### in order, with a place between each two -/
def can (l : List (Int × Int)) : Prop := (l.Pairwise fun u v => u.2 < v.1) ∧ ∀ u ∈ l, u.1 < u.2
def cov (l : List (Int × Int)) (x : Int) : Prop := ∃ u ∈ l, u.1 ≤ x ∧ x < u.2
theorem cov_nil {x : Int} : ¬ cov [] x := fun ⟨_, h, _⟩ => nomatch h
theorem cov_cons {p : Int × Int} {l : List (Int × Int)} {x : Int} : cov (p :: l) x ↔ (p.1 ≤ x ∧ x < p.2) ∨ cov l x := by
  constructor
  · rintro ⟨u, hu, h⟩
    rcases List.mem_cons.mp hu with rfl | hu
    · exact .inl h
    · exact .inr ⟨u, hu, h⟩
  · rintro (h | ⟨u, hu, h⟩)
    · exact ⟨p, List.mem_cons_self .., h⟩
    · exact ⟨u, List.mem_cons_of_mem _ hu, h⟩
theorem cov_app {l m : List (Int × Int)} {x : Int} : cov (l ++ m) x ↔ cov l x ∨ cov m x := by
  constructor
  · rintro ⟨u, hu, h⟩
    rcases List.mem_append.mp hu with hu | hu
    · exact .inl ⟨u, hu, h⟩
    · exact .inr ⟨u, hu, h⟩
  · rintro (⟨u, hu, h⟩ | ⟨u, hu, h⟩)
    · exact ⟨u, List.mem_append.mpr (.inl hu), h⟩
    · exact ⟨u, List.mem_append.mpr (.inr hu), h⟩
theorem can_cons {u : Int × Int} {l : List (Int × Int)} (h : can (u :: l)) : u.1 < u.2 ∧ can l ∧ ∀ v ∈ l, u.2 < v.1 :=
  ⟨h.2 u (List.mem_cons_self ..), ⟨(List.pairwise_cons.mp h.1).2, fun v hv => h.2 v (List.mem_cons_of_mem _ hv)⟩, (List.pairwise_cons.mp h.1).1⟩
theorem can_mk {u : Int × Int} {l : List (Int × Int)} (h1 : u.1 < u.2) (h2 : can l) (h3 : ∀ v ∈ l, u.2 < v.1) : can (u :: l) :=
  ⟨List.pairwise_cons.mpr ⟨h3, h2.1⟩, fun v hv => by
    rcases List.mem_cons.mp hv with rfl | hv
    · exact h1
    · exact h2.2 v hv⟩
/-- two such rows that tell the same places are one -/
theorem can_eq : ∀ (l m : List (Int × Int)), can l → can m → (∀ x, cov l x ↔ cov m x) → l = m
  | [], [], _, _, _ => rfl
  | [], v :: m, _, hm, h => by
    have hv := (can_cons hm).1
    exact absurd ((h v.1).mpr ⟨v, List.mem_cons_self .., Int.le_refl _, hv⟩) cov_nil
  | u :: l, [], hl, _, h => by
    have hu := (can_cons hl).1
    exact absurd ((h u.1).mp ⟨u, List.mem_cons_self .., Int.le_refl _, hu⟩) cov_nil
  | u :: l, v :: m, hl, hm, h => by
    obtain ⟨u1, u2, u3⟩ := can_cons hl
    obtain ⟨v1, v2, v3⟩ := can_cons hm
    have lo : ∀ (p : Int × Int) (r : List (Int × Int)) (y : Int), p.1 < p.2 → (∀ q ∈ r, p.2 < q.1) → cov (p :: r) y → p.1 ≤ y := fun p r y h1 h2 ⟨q, hq, h3⟩ => by
      rcases List.mem_cons.mp hq with rfl | hq
      · exact h3.1
      · have := h2 q hq
        omega
    have e1 : u.1 = v.1 := by
      have a1 := lo v m u.1 v1 v3 ((h u.1).mp ⟨u, List.mem_cons_self .., Int.le_refl _, u1⟩)
      have a2 := lo u l v.1 u1 u3 ((h v.1).mpr ⟨v, List.mem_cons_self .., Int.le_refl _, v1⟩)
      omega
    have gap : ∀ (p : Int × Int) (r : List (Int × Int)), (∀ q ∈ r, p.2 < q.1) → ¬ cov (p :: r) p.2 := fun p r h2 ⟨q, hq, h3⟩ => by
      rcases List.mem_cons.mp hq with rfl | hq
      · omega
      · have := h2 q hq
        omega
    have e2 : u.2 = v.2 := by
      have b1 := gap u l u3
      have b2 := gap v m v3
      by_cases c : u.2 < v.2
      · exact absurd ((h u.2).mpr ⟨v, List.mem_cons_self .., by omega, c⟩) b1
      · by_cases d : v.2 < u.2
        · exact absurd ((h v.2).mp ⟨u, List.mem_cons_self .., by omega, d⟩) b2
        · omega
    have e : u = v := Prod.ext e1 e2
    subst e
    rw [can_eq l m u2 v2 fun x => ?_]
    have hx := h x
    rw [cov_cons, cov_cons] at hx
    constructor
    · intro c
      rcases hx.mp (.inr c) with d | d
      · obtain ⟨q, hq, h3⟩ := c
        have := u3 q hq
        omega
      · exact d
    · intro c
      rcases hx.mpr (.inr c) with d | d
      · obtain ⟨q, hq, h3⟩ := c
        have := v3 q hq
        omega
      · exact d
theorem mx_le (a b x : Int) : mx a b ≤ x ↔ a ≤ x ∧ b ≤ x := by
  unfold mx
  split <;> omega
theorem lt_mn (a b x : Int) : x < mn a b ↔ x < a ∧ x < b := by
  unfold mn
  split <;> omega
/-- what meets: its places are those that both tell -/
theorem meetF_ok : ∀ (n : Nat) (A B : List (Int × Int)) (k : Nat), A.length + B.length ≤ n → can A → can B →
    ((meetF n A B k).Pairwise fun p q => p.2.2 < q.2.1) ∧ (∀ p ∈ meetF n A B k, p.2.1 < p.2.2 ∧ k ≤ p.1 ∧ (∃ u, A[p.1 - k]? = some u ∧ u.1 ≤ p.2.1 ∧ p.2.2 ≤ u.2) ∧ ∃ v ∈ B, v.1 ≤ p.2.1) ∧ ∀ x, cov ((meetF n A B k).map (·.2)) x ↔ cov A x ∧ cov B x
  | 0, A, B, k, h, _, _ => by
    have e1 : A = [] := List.eq_nil_of_length_eq_zero (by omega)
    subst e1
    exact ⟨List.Pairwise.nil, (fun _ h => nomatch h), fun x => ⟨fun c => absurd c cov_nil, fun c => absurd c.1 cov_nil⟩⟩
  | n + 1, [], B, k, _, _, _ => ⟨List.Pairwise.nil, (fun _ h => nomatch h), fun x => ⟨fun c => absurd c cov_nil, fun c => absurd c.1 cov_nil⟩⟩
  | n + 1, a :: A, [], k, _, _, _ => ⟨List.Pairwise.nil, (fun _ h => nomatch h), fun x => ⟨fun c => absurd c cov_nil, fun c => absurd c.2 cov_nil⟩⟩
  | n + 1, a :: A, b :: B, k, h, hA, hB => by
    obtain ⟨a1, a2, a3⟩ := can_cons hA
    obtain ⟨b1, b2, b3⟩ := can_cons hB
    rw [List.length_cons, List.length_cons] at h
    have hhit : ∀ p ∈ hit k a b, p.2.1 < p.2.2 ∧ p.1 = k ∧ a.1 ≤ p.2.1 ∧ p.2.2 ≤ a.2 ∧ b.1 ≤ p.2.1 ∧ p.2.2 ≤ b.2 := fun p hp => by
      unfold hit at hp
      split at hp
      · rename_i hc
        rw [List.mem_singleton.mp hp]
        have m1 := (mx_le a.1 b.1 (mx a.1 b.1)).mp (Int.le_refl _)
        have m2 : mn a.2 b.2 ≤ a.2 ∧ mn a.2 b.2 ≤ b.2 := by
          unfold mn
          split <;> omega
        exact ⟨hc, rfl, m1.1, m2.1, m1.2, m2.2⟩
      · cases hp
    have chit : ∀ x, cov ((hit k a b).map (·.2)) x ↔ (a.1 ≤ x ∧ x < a.2) ∧ (b.1 ≤ x ∧ x < b.2) := fun x => by
      have e := mx_le a.1 b.1 x
      have e' := lt_mn a.2 b.2 x
      unfold hit
      split
      · constructor
        · rintro ⟨u, hu, h1, h2⟩
          have hu' : u = (mx a.1 b.1, mn a.2 b.2) := List.mem_singleton.mp hu
          subst hu'
          have q1 := e.mp h1
          have q2 := e'.mp h2
          exact ⟨⟨q1.1, q2.1⟩, q1.2, q2.2⟩
        · rintro ⟨⟨c1, c2⟩, c3, c4⟩
          exact ⟨(mx a.1 b.1, mn a.2 b.2), List.mem_singleton.mpr rfl, e.mpr ⟨c1, c3⟩, e'.mpr ⟨c2, c4⟩⟩
      · rename_i hc
        constructor
        · exact fun c => absurd c cov_nil
        · rintro ⟨⟨c1, c2⟩, c3, c4⟩
          have q1 := e.mpr ⟨c1, c3⟩
          have q2 := e'.mpr ⟨c2, c4⟩
          omega
    have hpw : (hit k a b).Pairwise fun p q => p.2.2 < q.2.1 := by
      unfold hit
      split
      · exact List.pairwise_singleton _ _
      · exact List.Pairwise.nil
    rw [meetF_cons]
    by_cases c : a.2 ≤ b.2
    · rw [if_pos c]
      obtain ⟨r1, r2, r3⟩ := meetF_ok n A (b :: B) (k + 1) (by rw [List.length_cons]; omega) a2 hB
      refine ⟨List.pairwise_append.mpr ⟨hpw, r1, fun p hp q hq => ?_⟩, fun p hp => ?_, fun x => ?_⟩
      · obtain ⟨_, _, _, h4, _⟩ := hhit p hp
        obtain ⟨_, _, ⟨u, hu, hu1, _⟩, _⟩ := r2 q hq
        have := a3 u (List.mem_of_getElem? hu)
        omega
      · rcases List.mem_append.mp hp with hp | hp
        · obtain ⟨h1, h2, h3, h4, h5, h6⟩ := hhit p hp
          exact ⟨h1, by omega, ⟨a, by rw [h2, Nat.sub_self]; rfl, h3, h4⟩, b, List.mem_cons_self .., h5⟩
        · obtain ⟨h1, h2, ⟨u, hu, h3⟩, h4⟩ := r2 p hp
          refine ⟨h1, by omega, ⟨u, ?_, h3⟩, h4⟩
          rw [show p.1 - k = (p.1 - (k + 1)) + 1 by omega, List.getElem?_cons_succ]
          exact hu
      · rw [List.map_append, cov_app, chit, r3, cov_cons, cov_cons]
        constructor
        · rintro (⟨d1, d2⟩ | ⟨d1, d2⟩)
          · exact ⟨.inl d1, .inl d2⟩
          · exact ⟨.inr d1, d2⟩
        · rintro ⟨d1 | d1, d2⟩
          · rcases d2 with d2 | ⟨q, hq, d2⟩
            · exact .inl ⟨d1, d2⟩
            · have := b3 q hq
              omega
          · exact .inr ⟨d1, d2⟩
    · rw [if_neg c]
      obtain ⟨r1, r2, r3⟩ := meetF_ok n (a :: A) B k (by rw [List.length_cons]; omega) hA b2
      refine ⟨List.pairwise_append.mpr ⟨hpw, r1, fun p hp q hq => ?_⟩, fun p hp => ?_, fun x => ?_⟩
      · obtain ⟨_, _, _, _, _, h4⟩ := hhit p hp
        obtain ⟨_, _, _, v, hv, hv1⟩ := r2 q hq
        have := b3 v hv
        omega
      · rcases List.mem_append.mp hp with hp | hp
        · obtain ⟨h1, h2, h3, h4, h5, h6⟩ := hhit p hp
          exact ⟨h1, by omega, ⟨a, by rw [h2, Nat.sub_self]; rfl, h3, h4⟩, b, List.mem_cons_self .., h5⟩
        · obtain ⟨h1, h2, h3, v, hv, h4⟩ := r2 p hp
          exact ⟨h1, h2, h3, v, List.mem_cons_of_mem _ hv, h4⟩
      · rw [List.map_append, cov_app, chit, r3, cov_cons, cov_cons]
        constructor
        · rintro (⟨d1, d2⟩ | ⟨d1, d2⟩)
          · exact ⟨.inl d1, .inl d2⟩
          · exact ⟨d1, .inr d2⟩
        · rintro ⟨d1, d2 | d2⟩
          · rcases d1 with d1 | ⟨q, hq, d1⟩
            · exact .inl ⟨d1, d2⟩
            · have := a3 q hq
              omega
          · exact .inr ⟨d1, d2⟩

section
variable {P : Program} {w : World} {K : PySem.W.Frag} {mg : Str → Option Value} {base : Heap}
def okP (ps : List Prt) : Prop := ps.length ≤ 2000 ∧ ∀ p ∈ ps, p.2.length ≤ 20000
def spTold : Sp := fun vs H Q _ => ∃ (a : Addr) (xs : List V) (ps : List Prt), vs = [.ref a] ∧ IsS H a xs ∧ Paired (PT2 H) xs ps ∧ okP ps ∧ ∀ p ys H', H p = none → Same H H' → H' p = some (.lst ys) → Paired (PS2 H') ys ((ps.map tb).map iv) → Q (.ref p) H'
theorem ok_told_by (T : Txt K mg) : FnOk P w K mg base CX0 1 T.f_told_by T.fd_told_by ["parts"] spTold := by
  refine T.d_told_by.F.ok sc_told_by (fun vs H Q E h => ?_) (fun cdv A outer s H vs Q E hr h => ?_)
  · obtain ⟨a, xs, ps, rfl, _⟩ := h
    rfl
  · obtain ⟨a, xs, ps, rfl, ha, hx, ⟨l1, l2⟩, q⟩ := h
    refine ⟨_, (pss_one (ps_ret (pe_lc (own := [("start", 1), ("signs", 2)]) (g := gTup K 2 (gCons (gName 1) (gCons (gName 2) gNil))) (tt := tYes) (by rfl) sc_told_by.nd (pi_seq (pv 0)) (blkOk_by (own := [("start", 1), ("signs", 2)]) (N := ["parts", "start", "signs"]) (sc := defScope s_told_by) (by decide +kernel)) (fun _ _ _ _ _ => (pg_tup rfl (pgs_cons (pg_name (i := 1) sc_told_by.nd rfl (Or.inl rfl)) (pgs_cons (pg_name (i := 2) sc_told_by.nd rfl (Or.inl rfl)) pgs_nil)))) (fun _ _ _ _ _ => pts_nil) (fun _ _ _ _ _ => (pe_tup (pa_cons (pv 1) (pa_cons (pe_op op_add (pv 1) (pe_callB call_len_str (by rfl) T.m_len (by decide +kernel) (pa_cons (pv 2) pa_nil))) pa_nil))))))), ?_⟩
    have lx : xs.length = ps.length := Paired.length hx
    refine ⟨.ref a, rfl, a, rfl, lc_seq ha (fun D i H' => Same H H' ∧ ∃ ys, H' D = some (.lst ys) ∧ Paired (PS2 H') ys (((ps.take i).map tb).map iv)) (fun D hD => ⟨same_upd hD, [], upd_same, .nil⟩) (fun D i H' _ _ pv => ha.eq pv.1) ?_ ?_⟩
    · rintro D i x H1 hD hi ⟨sm, ys, eD, hy⟩
      obtain ⟨p, hp, t, rfl, ht⟩ := paired_at hx hi
      have hil : i < ps.length := (List.getElem?_eq_some_iff.mp hp).1
      have lz := l2 p (List.mem_of_getElem? hp)
      refine ⟨t, _, rfl, SqT.of (sm _ _ ht), rfl, _, _, rfl, _, _, rfl, rfl, rfl, _, rfl, _, rfl, _, rfl, _, rfl, szl (by omega), _, _, rfl, rfl, (by show 2 ≤ sizeLine; decide), fun q2 hq2 => ?_⟩
      have s2 := same_upd (o := .tup [.int p.1, .int (p.1 + (p.2.length : Int))]) hq2
      have eD2 := s2 _ _ eD
      have hyl := Paired.length hy
      rw [List.length_map, List.length_map, List.length_take] at hyl
      refine ⟨ys, eD2, szlt (by omega), same_mut (sm.trans s2) hD, ys ++ [.ref q2], upd_same, ?_⟩
      rw [take_map tb hp, List.map_append]
      exact ps2s_upd eD2 (fun _ z => by cases z) (paired_app (ps2s_mono s2 hy) (.cons ⟨q2, rfl, upd_same⟩ .nil))
    · rintro D H1 hD ⟨sm, ys, eD, hy⟩
      rw [lx, List.take_length] at hy
      exact q D ys H1 hD sm eD hy
def wgt (ps : List Prt) : Int := (ps.map fun p => (p.2.length : Int)).sum
def spWeight : Sp := fun vs H Q _ => ∃ (a : Addr) (xs : List V) (ps : List Prt), vs = [.ref a] ∧ IsS H a xs ∧ Paired (PT2 H) xs ps ∧ okP ps ∧ ∀ H', Same H H' → Q (.int (wgt ps)) H'
theorem ok_weight (T : Txt K mg) : FnOk P w K mg base CX0 1 T.f_weight T.fd_weight ["parts"] spWeight := by
  refine T.d_weight.F.ok sc_weight (fun vs H Q E h => ?_) (fun cdv A outer s H vs Q E hr h => ?_)
  · obtain ⟨a, xs, ps, rfl, _⟩ := h
    rfl
  · obtain ⟨a, xs, ps, rfl, ha, hx, ⟨l1, l2⟩, q⟩ := h
    refine ⟨_, (pss_one (ps_ret (pe_callB (cr_sum rfl) (by rfl) T.m_sum (by decide +kernel) (pa_cons (pe_lc (own := [("start", 1), ("signs", 2)]) (g := gTup K 2 (gCons (gName 1) (gCons (gName 2) gNil))) (tt := tYes) (by rfl) sc_weight.nd (pi_seq (pv 0)) (blkOk_by (own := [("start", 1), ("signs", 2)]) (N := ["parts", "start", "signs"]) (sc := defScope s_weight) (by decide +kernel)) (fun _ _ _ _ _ => (pg_tup rfl (pgs_cons (pg_name (i := 1) sc_weight.nd rfl (Or.inl rfl)) (pgs_cons (pg_name (i := 2) sc_weight.nd rfl (Or.inl rfl)) pgs_nil)))) (fun _ _ _ _ _ => pts_nil) (fun _ _ _ _ _ => (pe_callB call_len_str (by rfl) T.m_len (by decide +kernel) (pa_cons (pv 2) pa_nil)))) pa_nil)))), ?_⟩
    have lx : xs.length = ps.length := Paired.length hx
    refine ⟨.ref a, rfl, a, rfl, lc_seq ha (fun D i H' => Same H H' ∧ H' D = some (.lst (((ps.take i).map fun p => (p.2.length : Int)).map V.int))) (fun D hD => ⟨same_upd hD, upd_same⟩) (fun D i H' _ _ pv => ha.eq pv.1) ?_ ?_⟩
    · rintro D i x H1 hD hi ⟨sm, eD⟩
      obtain ⟨p, hp, t, rfl, ht⟩ := paired_at hx hi
      have hil : i < ps.length := (List.getElem?_eq_some_iff.mp hp).1
      have lz := l2 p (List.mem_of_getElem? hp)
      refine ⟨t, _, rfl, SqT.of (sm _ _ ht), rfl, _, _, rfl, _, _, rfl, rfl, rfl, _, rfl, _, rfl, szl (by omega), _, eD, ?_, same_mut sm hD, ?_⟩
      · rw [List.length_map, List.length_map, List.length_take]
        exact szlt (by omega)
      · rw [upd_same, take_map (fun p : Prt => (p.2.length : Int)) hp, List.map_append]
        rfl
    · rintro D H1 hD ⟨sm, eD⟩
      rw [lx, List.take_length] at eD
      exact ⟨D, _, rfl, SqL.of eD, q H1 sm⟩

def spUnt : Sp := fun vs H Q _ => ∃ (a : Addr) (xs : List V) (ps : List Prt) (size : Int), vs = [.ref a, .int size] ∧ IsS H a xs ∧ Paired (PT2 H) xs ps ∧ okP ps ∧ ∀ p ys H', H p = none → Same H H' → H' p = some (.lst ys) → Paired (PS2 H') ys ((unt 0 size (ps.map tb)).map iv) → Q (.ref p) H'
theorem ok_untold_by (T : Txt K mg) : FnOk P w K mg base CX0 2 T.f_untold_by T.fd_untold_by ["parts", "size"] spUnt := by
  refine T.d_untold_by.F.ok sc_untold_by (fun vs H Q E h => ?_) (fun cdv A outer s H vs Q E hr h => ?_)
  · obtain ⟨a, xs, ps, size, rfl, _⟩ := h
    rfl
  · obtain ⟨a, xs, ps, size, rfl, ha, hx, hok, q⟩ := h
    refine ⟨_, (pss_cons (ps_set (i := 2) sc_untold_by.nd rfl (.inl rfl) (pe_lst pa_nil))
      (pss_cons (ps_set (i := 3) sc_untold_by.nd rfl (.inl rfl) pe_int)
      (pss_cons (ps_for PassesOwn.never rfl (pi_list (pe_call (ok_told_by T) (hr.mono (by decide)) (by rfl) T.d_told_by.g T.d_told_by.F.kp T.d_told_by.b .nil pass0 (pa_cons (pv 0) pa_nil))) (pg_tup rfl (pgs_cons (pg_name (i := 4) sc_untold_by.nd rfl (.inl rfl)) (pgs_cons (pg_name (i := 5) sc_untold_by.nd rfl (.inl rfl)) pgs_nil)))
      (Evl.pss_cut (ps_if (pt_cmpR op_lt (pv 3) (pv 4) (nomark _))
      (pss_one (ps_expr (pe_bm PySem.F.plainAttrs_list PySem.F.slot_list_append PySem.F.type_list_append mt_append (pv 2) (pa_cons (pe_tup (pa_cons (pv 3) (pa_cons (pv 4) pa_nil))) pa_nil))))
      pss_nil)
      (pss_one (ps_set (i := 3) sc_untold_by.nd rfl (.inl rfl) (pv 5)))))
      (pss_cons (ps_if (pt_cmpR op_lt (pv 3) (pv 1) (nomark _))
      (pss_one (ps_expr (pe_bm PySem.F.plainAttrs_list PySem.F.slot_list_append PySem.F.type_list_append mt_append (pv 2) (pa_cons (pe_tup (pa_cons (pv 3) (pa_cons (pv 1) pa_nil))) pa_nil))))
      pss_nil)
      (pss_one (ps_ret (pv 2))))))), ?_⟩
    refine ⟨Nat.zero_le _, fun L hL => ?_⟩
    have sL := same_upd (o := .lst []) hL
    refine ⟨.ref a, rfl, a, xs, ps, rfl, ha.mono sL, pt2s_mono sL hx, hok, fun c zs H1 nc s1 hc hz => ?_⟩
    have eL1 := s1 _ _ (show (upd H L (.lst [])) L = some (.lst []) from upd_same)
    have t1 := sL.trans s1
    have ncL : c ≠ L := fun z => by
      rw [z, upd_same] at nc
      cases nc
    have l1 := hok.1
    generalize hA : ps.map tb = A at *
    have lA : A.length ≤ 2000 := by
      rw [← hA, List.length_map]
      exact l1
    have lz : zs.length = A.length := (Paired.length hz).trans (List.length_map ..)
    refine ⟨c, rfl, ⟨_, SqL.of hc⟩, for_list (K := K) (a := c) (xs := zs) (fun i σ H' => Same H H' ∧ H' c = some (.lst zs) ∧ ∃ (ys : List V) (acc : List (Int × Int)) (at_ : Int) (y4 y5 : Option V), H' L = some (.lst ys) ∧ Paired (PS2 H') ys (acc.map iv) ∧ acc.length ≤ i ∧ acc ++ unt at_ size (A.drop i) = unt 0 size A ∧ Same H1 (upd H' L (.lst [])) ∧ σ = [some (.ref a), some (.int size), some (.ref L), some (.int at_), y4, y5])
      ⟨t1, hc, [], [], 0, none, none, eL1, .nil, Nat.le_refl _, rfl, ?_, rfl⟩ (fun i σ H' _ pv => SqL.of pv.2.1) ?_ ?_⟩
    · intro b o e
      by_cases hb : b = L
      · rw [hb] at e ⊢
        rw [eL1] at e
        rw [upd_same]
        exact e
      · rw [upd_ne hb]
        exact e
    · rintro i x σ H2 hi ⟨s2, ec, ys, acc, at_, y4, y5, eL, hy, la, eq, sk, rfl⟩
      obtain ⟨sp, hsp, t, rfl, ht1⟩ := paired_at hz hi
      rw [List.getElem?_map] at hsp
      cases hk : A[i]? with
      | none =>
        rw [hk] at hsp
        cases hsp
      | some u =>
        rw [hk] at hsp
        cases hsp
        have hil : i < A.length := (List.getElem?_eq_some_iff.mp hk).1
        have hdrop : A.drop i = u :: A.drop (i + 1) := by
          obtain ⟨hi', rfl⟩ := List.getElem?_eq_some_iff.mp hk
          exact List.drop_eq_getElem_cons hi'
        have ht : H2 t = some (.tup [.int u.1, .int u.2]) := by
          have := sk _ _ ht1
          rw [upd_ne] at this
          · exact this
          · intro z
            rw [z, eL1] at ht1
            cases ht1
        refine ⟨t, _, rfl, SqT.of ht, rfl, _, _, rfl, _, _, rfl, rfl, ?_⟩
        rw [hdrop] at eq
        have eq' : (acc ++ (if at_ < u.1 then [(at_, u.1)] else [])) ++ unt u.2 size (A.drop (i + 1)) = unt 0 size A := by
          rw [List.append_assoc]
          exact eq
        refine ⟨fun σ' H' => Same H H' ∧ H' c = some (.lst zs) ∧ (∃ (ys : List V), H' L = some (.lst ys) ∧ Paired (PS2 H') ys ((acc ++ (if at_ < u.1 then [(at_, u.1)] else [])).map iv)) ∧ Same H1 (upd H' L (.lst [])) ∧ σ' = [some (.ref a), some (.int size), some (.ref L), some (.int at_), some (.int u.1), some (.int u.2)], ?_, ?_⟩
        · refine ⟨_, rfl, _, rfl, _, _, rfl, rfl, _, rfl, ite2 (fun e => ?_) (fun e => ?_)⟩
          · rw [if_pos (of_decide_eq_true e)]
            refine ⟨.ref L, rfl, .inl ⟨rfl, _, SqL.of eL⟩, _, rfl, _, rfl, (by show 2 ≤ sizeLine; decide), fun p hp => ?_⟩
            have sp := same_upd (o := .tup [.int at_, .int u.1]) hp
            have eLp := sp _ _ eL
            refine ⟨L, _, _, rfl, rfl, eLp, by rw [Paired.length hy, List.length_map]; exact szlt (by omega), same_mut (s2.trans sp) hL, by rw [upd_ne ncL]; exact sp _ _ ec, ⟨ys ++ [.ref p], upd_same, ?_⟩, ?_, rfl⟩
            · rw [List.map_append]
              exact ps2s_upd eLp (fun _ z => by cases z) (paired_app (ps2s_mono sp hy) (.cons ⟨p, rfl, upd_same⟩ .nil))
            · intro b o e
              have q1 := sk _ _ e
              by_cases hb : b = L
              · rw [hb] at q1 ⊢
                rw [upd_same] at q1 ⊢
                exact q1
              · rw [upd_ne hb] at q1 ⊢
                rw [upd_ne hb]
                exact sp _ _ q1
          · rw [if_neg (fun z => e (decide_eq_true z)), List.append_nil]
            exact ⟨s2, ec, ⟨ys, eL, hy⟩, sk, rfl⟩
        · rintro σ' H3 ⟨s3, ec3, ⟨ys3, eL3, hy3⟩, sk3, rfl⟩
          refine ⟨_, rfl, s3, ec3, ys3, _, u.2, _, _, eL3, hy3, ?_, eq', sk3, rfl⟩
          rw [List.length_append]
          split <;> simp only [List.length_cons, List.length_nil] <;> omega
    · rintro σ H2 ⟨s2, ec, ys, acc, at_, y4, y5, eL, hy, la, eq, sk, rfl⟩
      rw [List.drop_of_length_le (by omega)] at eq
      have eq' : acc ++ (if at_ < size then [(at_, size)] else []) = unt 0 size A := eq
      refine ⟨_, rfl, _, rfl, _, _, rfl, rfl, _, rfl, ite2 (fun e => ?_) (fun e => ?_)⟩
      · rw [if_pos (of_decide_eq_true e)] at eq'
        refine ⟨.ref L, rfl, .inl ⟨rfl, _, SqL.of eL⟩, _, rfl, _, rfl, (by show 2 ≤ sizeLine; decide), fun p hp => ?_⟩
        have sp := same_upd (o := .tup [.int at_, .int size]) hp
        have eLp := sp _ _ eL
        refine ⟨L, _, _, rfl, rfl, eLp, by rw [Paired.length hy, List.length_map]; exact szlt (by omega), .ref L, rfl, q L (ys ++ [.ref p]) _ hL (same_mut (s2.trans sp) hL) upd_same ?_⟩
        rw [← eq', List.map_append]
        exact ps2s_upd eLp (fun _ z => by cases z) (paired_app (ps2s_mono sp hy) (.cons ⟨p, rfl, upd_same⟩ .nil))
      · rw [if_neg (fun z => e (decide_eq_true z)), List.append_nil] at eq'
        rw [← eq'] at q
        exact ⟨.ref L, rfl, q L ys H2 hL s2 eL hy⟩
def spMeet : Sp := fun vs H Q _ => ∃ (a b : Addr) (xs ys : List V) (A B : List (Int × Int)), vs = [.ref a, .ref b] ∧ IsS H a xs ∧ IsS H b ys ∧ Paired (PS2 H) xs (A.map iv) ∧ Paired (PS2 H) ys (B.map iv) ∧ A.length + B.length ≤ 10000 ∧
  ∀ p zs H', H p = none → Same H H' → H' p = some (.lst zs) → Paired (PM3 H') zs (meet A B) → Q (.ref p) H'
theorem ok_meetings (T : Txt K mg) : FnOk P w K mg base CX0 1 T.f_meetings T.fd_meetings ["ones", "others"] spMeet := by
  refine T.d_meetings.F.ok sc_meetings (fun vs H Q E h => ?_) (fun cdv A outer s H vs Q E hr h => ?_)
  · obtain ⟨a, b, xs, ys, A, B, rfl, _⟩ := h
    rfl
  · obtain ⟨a, b, xs, ys, A, B, rfl, ha, hb, hA, hB, hl, q⟩ := h
    refine ⟨_, (pss_cons (ps_set (i := 2) sc_meetings.nd rfl (.inl rfl) (pe_lst pa_nil))
      (pss_cons (ps_set (i := 3) sc_meetings.nd rfl (.inl rfl) pe_int)
      (pss_cons (ps_set (i := 4) sc_meetings.nd rfl (.inl rfl) pe_int)
      (pss_cons (ps_while PassesOwn.never (PW.pt (pw_and (pt_cmpR op_lt (pv 3) (pe_callB call_len_seq (by rfl) T.m_len (by decide +kernel) (pa_cons (pv 0) pa_nil)) (nomark _)) (pw_and1 (pt_cmpR op_lt (pv 4) (pe_callB call_len_seq (by rfl) T.m_len (by decide +kernel) (pa_cons (pv 1) pa_nil)) (nomark _)))))
      (pss_cons (ps_set (i := 5) sc_meetings.nd rfl (.inl rfl) (pe_callB (call_max2 rfl) (by rfl) T.m_max (by decide +kernel) (pa_cons (pe_ix ix_tup (pe_ix ix_seq (pv 0) (pv 3) (fun _ _ => rfl)) pe_int (fun _ _ => rfl)) (pa_cons (pe_ix ix_tup (pe_ix ix_seq (pv 1) (pv 4) (fun _ _ => rfl)) pe_int (fun _ _ => rfl)) pa_nil))))
      (pss_cons (ps_set (i := 6) sc_meetings.nd rfl (.inl rfl) (pe_callB (call_min2 rfl) (by rfl) T.m_min (by decide +kernel) (pa_cons (pe_ix ix_tup (pe_ix ix_seq (pv 0) (pv 3) (fun _ _ => rfl)) pe_int (fun _ _ => rfl)) (pa_cons (pe_ix ix_tup (pe_ix ix_seq (pv 1) (pv 4) (fun _ _ => rfl)) pe_int (fun _ _ => rfl)) pa_nil))))
      (Evl.pss_cut (ps_if (pt_cmpR op_lt (pv 5) (pv 6) (nomark _))
      (pss_one (ps_expr (pe_bm PySem.F.plainAttrs_list PySem.F.slot_list_append PySem.F.type_list_append mt_append (pv 2) (pa_cons (pe_tup (pa_cons (pv 3) (pa_cons (pv 5) (pa_cons (pv 6) pa_nil)))) pa_nil))))
      pss_nil)
      (pss_one (ps_if (pt_cmpR op_le (pe_ix ix_tup (pe_ix ix_seq (pv 0) (pv 3) (fun _ _ => rfl)) pe_int (fun _ _ => rfl)) (pe_ix ix_tup (pe_ix ix_seq (pv 1) (pv 4) (fun _ _ => rfl)) pe_int (fun _ _ => rfl)) (nomark _))
      (pss_one (ps_aug (i := 3) sc_meetings.nd rfl (.inl rfl) pe_int ip_add))
      (pss_one (ps_aug (i := 4) sc_meetings.nd rfl (.inl rfl) pe_int ip_add))))))))
      (pss_one (ps_ret (pv 2))))))), ?_⟩
    have lx : xs.length = A.length := (Paired.length hA).trans (List.length_map ..)
    have ly : ys.length = B.length := (Paired.length hB).trans (List.length_map ..)
    refine ⟨Nat.zero_le _, fun L hL => ?_⟩
    refine ⟨fun m σ H' => ∃ (i j : Nat) (zs : List V) (F : List (Nat × Int × Int)) (y5 y6 : Option V), m = (A.length - i) + (B.length - j) ∧ i ≤ A.length ∧ j ≤ B.length ∧ Same H H' ∧ H' L = some (.lst zs) ∧ Paired (PM3 H') zs F ∧ F ++ meetF m (A.drop i) (B.drop j) i = meet A B ∧ σ = [some (.ref a), some (.ref b), some (.ref L), some (.int (i : Int)), some (.int (j : Int)), y5, y6],
      ⟨_, 0, 0, [], [], none, none, rfl, Nat.zero_le _, Nat.zero_le _, same_upd hL, upd_same, .nil, rfl, rfl⟩, ?_⟩
    rintro m σ H1 ⟨i, j, zs, F, y5, y6, rfl, hi, hj, sm, eL, hF, eq, rfl⟩
    have lF : F.length ≤ 10000 := by
      have h1 := congrArg List.length eq
      rw [List.length_append] at h1
      have h2 := meetF_len (A.length + B.length) A B 0
      unfold meet at h1
      omega
    have out : ∀ zs F H1, Same H H1 → H1 L = some (.lst zs) → Paired (PM3 H1) zs F → F = meet A B → Q (.ref L) H1 := fun zs F H1 s e h1 h2 => q L zs H1 hL s e (h2 ▸ h1)
    refine ⟨_, rfl, .ref a, rfl, a, _, rfl, (ha.mono sm).or, _, _, rfl, rfl, _, rfl, ite2 (fun e => ?_) (fun e => ?_)⟩
    · have e1 : (i : Int) < (xs.length : Int) := of_decide_eq_true e
      refine ⟨_, rfl, .ref b, rfl, b, _, rfl, (hb.mono sm).or, _, _, rfl, rfl, _, rfl, ite2 (fun e2 => ?_) (fun e2 => ?_)⟩
      · have e3 : (j : Int) < (ys.length : Int) := of_decide_eq_true e2
        have hiA : i < A.length := by omega
        have hjB : j < B.length := by omega
        obtain ⟨u, hu⟩ : ∃ u, A[i]? = some u := ⟨A[i], List.getElem?_eq_getElem hiA⟩
        obtain ⟨v, hv⟩ : ∃ v, B[j]? = some v := ⟨B[j], List.getElem?_eq_getElem hjB⟩
        have hdA : A.drop i = u :: A.drop (i + 1) := by
          obtain ⟨hi', rfl⟩ := List.getElem?_eq_some_iff.mp hu
          exact List.drop_eq_getElem_cons hi'
        have hdB : B.drop j = v :: B.drop (j + 1) := by
          obtain ⟨hi', rfl⟩ := List.getElem?_eq_some_iff.mp hv
          exact List.drop_eq_getElem_cons hi'
        obtain ⟨xv, hxv⟩ : ∃ x, xs[i]? = some x := ⟨xs[i]'(by omega), List.getElem?_eq_getElem (by omega)⟩
        obtain ⟨yv, hyv⟩ : ∃ x, ys[j]? = some x := ⟨ys[j]'(by omega), List.getElem?_eq_getElem (by omega)⟩
        obtain ⟨su, hsu, t, rfl, ht0⟩ := paired_at hA hxv
        obtain ⟨sv, hsv, r, rfl, hr0⟩ := paired_at hB hyv
        rw [List.getElem?_map, hu] at hsu
        rw [List.getElem?_map, hv] at hsv
        cases hsu
        cases hsv
        have ax := atI_nat (xs := xs) hxv
        have ay := atI_nat (xs := ys) hyv
        have u0 : atI [V.int u.1, V.int u.2] 0 = some (.int u.1) := rfl
        have u1 : atI [V.int u.1, V.int u.2] 1 = some (.int u.2) := rfl
        have v0 : atI [V.int v.1, V.int v.2] 0 = some (.int v.1) := rfl
        have v1 : atI [V.int v.1, V.int v.2] 1 = some (.int v.2) := rfl
        have ht := sm _ _ ht0
        have hr' := sm _ _ hr0
        have hm : (A.length - i) + (B.length - j) = ((A.length - i) + (B.length - j) - 1) + 1 := by omega
        rw [hm, hdA, hdB, meetF_cons, ← List.append_assoc] at eq
        refine ⟨fun σ' H' => ∃ m', m' < (A.length - i) + (B.length - j) ∧ ∃ (i j : Nat) (zs : List V) (F : List (Nat × Int × Int)) (y5 y6 : Option V), m' = (A.length - i) + (B.length - j) ∧ i ≤ A.length ∧ j ≤ B.length ∧ Same H H' ∧ H' L = some (.lst zs) ∧ Paired (PM3 H') zs F ∧ F ++ meetF m' (A.drop i) (B.drop j) i = meet A B ∧ σ' = [some (.ref a), some (.ref b), some (.ref L), some (.int (i : Int)), some (.int (j : Int)), y5, y6], fun σ' H' h => h, ?_⟩
        refine ⟨.ref a, rfl, _, rfl, rix_of (ha.mono sm) ax ⟨t, _, 0, _, rfl, rfl, SqT.of ht, u0, .ref b, rfl, _, rfl, rix_of (hb.mono sm) ay ⟨r, _, 0, _, rfl, rfl, SqT.of hr', v0, u.1, v.1, rfl, ?_⟩⟩⟩
        refine ⟨.ref a, rfl, _, rfl, rix_of (ha.mono sm) ax ⟨t, _, 1, _, rfl, rfl, SqT.of ht, u1, .ref b, rfl, _, rfl, rix_of (hb.mono sm) ay ⟨r, _, 1, _, rfl, rfl, SqT.of hr', v1, u.2, v.2, rfl, ?_⟩⟩⟩
        refine ⟨fun σ' H' => (∃ (zs : List V), H' L = some (.lst zs) ∧ Paired (PM3 H') zs (F ++ hit i u v)) ∧ Same H H' ∧ σ' = [some (.ref a), some (.ref b), some (.ref L), some (.int (i : Int)), some (.int (j : Int)), some (.int (mx u.1 v.1)), some (.int (mn u.2 v.2))], ?_, ?_⟩
        · refine ⟨_, rfl, _, rfl, _, _, rfl, rfl, _, rfl, ite2 (fun e => ?_) (fun e => ?_)⟩
          · have ee : hit i u v = [(i, mx u.1 v.1, mn u.2 v.2)] := if_pos (of_decide_eq_true e)
            refine ⟨.ref L, rfl, .inl ⟨rfl, _, SqL.of eL⟩, _, rfl, _, rfl, _, rfl, (by show 3 ≤ sizeLine; decide), fun p hp => ?_⟩
            have sp := same_upd (o := .tup [.int (i : Int), .int (mx u.1 v.1), .int (mn u.2 v.2)]) hp
            have eLp := sp _ _ eL
            refine ⟨L, _, _, rfl, rfl, eLp, by rw [Paired.length hF]; exact szlt (by omega), ⟨zs ++ [.ref p], upd_same, ?_⟩, same_mut (sm.trans sp) hL, rfl⟩
            rw [ee]
            exact pm3s_upd eLp (fun _ z => by cases z) (paired_app (pm3s_mono sp hF) (.cons ⟨p, rfl, upd_same⟩ .nil))
          · have ee : hit i u v = [] := if_neg (fun z => e (decide_eq_true z))
            exact ⟨⟨zs, eL, by rw [ee, List.append_nil]; exact hF⟩, sm, rfl⟩
        · rintro σ' H2 ⟨⟨zs2, eL2, hF2⟩, s2, rfl⟩
          have ht2 := s2 _ _ ht0
          have hr2 := s2 _ _ hr0
          refine ⟨.ref a, rfl, _, rfl, rix_of (ha.mono s2) ax ⟨t, _, 1, _, rfl, rfl, SqT.of ht2, u1, .ref b, rfl, _, rfl, rix_of (hb.mono s2) ay ⟨r, _, 1, _, rfl, rfl, SqT.of hr2, v1, u.2, v.2, rfl, rfl, _, rfl, ite2 (fun e => ?_) (fun e => ?_)⟩⟩⟩
          · rw [if_pos (of_decide_eq_true e)] at eq
            refine ⟨_, rfl, _, 1, rfl, rfl, (A.length - i) + (B.length - j) - 1, by omega, i + 1, j, zs2, _, _, _, by omega, by omega, hj, s2, eL2, hF2, ?_, rfl⟩
            rw [hdB]
            exact eq
          · rw [if_neg (fun z => e (decide_eq_true z))] at eq
            refine ⟨_, rfl, _, 1, rfl, rfl, (A.length - i) + (B.length - j) - 1, by omega, i, j + 1, zs2, _, _, _, by omega, hi, by omega, s2, eL2, hF2, ?_, rfl⟩
            rw [hdA]
            exact eq
      · have e3 : ¬ (j : Int) < (ys.length : Int) := fun z => e2 (decide_eq_true z)
        rw [List.drop_of_length_le (l := B) (by omega), meetF_nil2, List.append_nil] at eq
        exact ⟨.ref L, rfl, out zs F H1 sm eL hF eq⟩
    · have e3 : ¬ (i : Int) < (xs.length : Int) := fun z => e (decide_eq_true z)
      rw [List.drop_of_length_le (l := A) (by omega), meetF_nil1, List.append_nil] at eq
      exact ⟨.ref L, rfl, out zs F H1 sm eL hF eq⟩

end
end My
namespace My
open PySem PySem.Spec PyProof.Rows L2 TL
/-! ### what parts don't tell -/
theorem unt_ok (size : Int) : ∀ (A : List (Int × Int)) (a : Int), can A → (∀ u ∈ A, a ≤ u.1) → can (unt a size A) ∧ (∀ v ∈ unt a size A, a ≤ v.1) ∧ ∀ x, x < size → (cov (unt a size A) x ↔ a ≤ x ∧ ¬ cov A x)
  | [], a, _, _ => by
    unfold unt
    split
    · refine ⟨can_mk (by assumption) ⟨List.Pairwise.nil, (fun _ h => nomatch h)⟩ (fun _ h => nomatch h), fun v hv => ?_, fun x hx => ?_⟩
      · rw [List.mem_singleton.mp hv]
        exact Int.le_refl _
      · rw [cov_cons]
        constructor
        · rintro (c | c)
          · exact ⟨c.1, cov_nil⟩
          · exact absurd c cov_nil
        · exact fun c => .inl ⟨c.1, hx⟩
    · refine ⟨⟨List.Pairwise.nil, (fun _ h => nomatch h)⟩, (fun _ h => nomatch h), fun x hx => ⟨fun c => absurd c cov_nil, fun c => ?_⟩⟩
      omega
  | u :: r, a, hA, ha => by
    obtain ⟨u1, u2, u3⟩ := can_cons hA
    have hu := ha u (List.mem_cons_self ..)
    obtain ⟨r1, r2, r3⟩ := unt_ok size r u.2 u2 fun v hv => by
      have := u3 v hv
      omega
    show can ((if a < u.1 then [(a, u.1)] else []) ++ unt u.2 size r) ∧ (∀ v ∈ (if a < u.1 then [(a, u.1)] else []) ++ unt u.2 size r, a ≤ v.1) ∧ ∀ x, x < size → (cov ((if a < u.1 then [(a, u.1)] else []) ++ unt u.2 size r) x ↔ a ≤ x ∧ ¬ cov (u :: r) x)
    have key : ∀ x, x < size → ((a ≤ x ∧ x < u.1) ∨ cov (unt u.2 size r) x ↔ a ≤ x ∧ ¬ cov (u :: r) x) := fun x hx => by
      rw [r3 x hx, cov_cons]
      constructor
      · rintro (c | c)
        · refine ⟨c.1, fun d => ?_⟩
          rcases d with d | ⟨v, hv, d⟩
          · omega
          · have := u3 v hv
            omega
        · refine ⟨by omega, fun d => ?_⟩
          rcases d with d | d
          · omega
          · exact c.2 d
      · rintro ⟨c, d⟩
        by_cases e : x < u.1
        · exact .inl ⟨c, e⟩
        · by_cases e2 : x < u.2
          · exact absurd (.inl ⟨by omega, e2⟩) d
          · exact .inr ⟨by omega, fun k => d (.inr k)⟩
    by_cases c : a < u.1
    · rw [if_pos c]
      refine ⟨can_mk c r1 (fun v hv => by have := r2 v hv; dsimp only; omega), fun v hv => ?_, fun x hx => ?_⟩
      · rcases List.mem_cons.mp hv with rfl | hv
        · exact Int.le_refl _
        · have := r2 v hv
          omega
      · rw [← key x hx]
        exact cov_cons
    · rw [if_neg c]
      refine ⟨r1, fun v hv => ?_, fun x hx => ?_⟩
      · have := r2 v hv
        omega
      · rw [← key x hx]
        constructor
        · exact fun k => .inr k
        · rintro (k | k)
          · omega
          · exact k
theorem unt_len (size : Int) : ∀ (A : List (Int × Int)) (a : Int), (unt a size A).length ≤ A.length + 1
  | [], a => by
    unfold unt
    split <;> simp
  | u :: r, a => by
    have := unt_len size r u.2
    show ((if a < u.1 then [(a, u.1)] else []) ++ unt u.2 size r).length ≤ _
    rw [List.length_append, List.length_cons]
    split <;> simp only [List.length_cons, List.length_nil] <;> omega
theorem meet_can {A B : List (Int × Int)} (hA : can A) (hB : can B) : can ((meet A B).map (·.2)) := by
  obtain ⟨r1, r2, _⟩ := meetF_ok (A.length + B.length) A B 0 (Nat.le_refl _) hA hB
  refine ⟨List.pairwise_map.mpr r1, fun u hu => ?_⟩
  obtain ⟨p, hp, rfl⟩ := List.mem_map.mp hu
  exact (r2 p hp).1
theorem meet_cov {A B : List (Int × Int)} (hA : can A) (hB : can B) (x : Int) : cov ((meet A B).map (·.2)) x ↔ cov A x ∧ cov B x := (meetF_ok (A.length + B.length) A B 0 (Nat.le_refl _) hA hB).2.2 x
theorem meet_at {A B : List (Int × Int)} (hA : can A) (hB : can B) {p : Nat × Int × Int} (hp : p ∈ meet A B) : p.2.1 < p.2.2 ∧ ∃ u, A[p.1]? = some u ∧ u.1 ≤ p.2.1 ∧ p.2.2 ≤ u.2 := by
  obtain ⟨h1, _, ⟨u, hu, h3⟩, _⟩ := (meetF_ok (A.length + B.length) A B 0 (Nat.le_refl _) hA hB).2.1 p hp
  exact ⟨h1, u, hu, h3⟩
theorem meet_len (A B : List (Int × Int)) : (meet A B).length ≤ A.length + B.length := meetF_len _ _ _ _
def lastOf (W : List (Int × Int)) : Int := ((W.getLast?).map (·.2)).getD 0
def lak (W A : List (Int × Int)) : List (Int × Int) := if W = [] then [] else (meet W (unt 0 (lastOf W) A)).map (·.2)
theorem le_last {W : List (Int × Int)} (h : can W) {x : Int} (c : cov W x) : x < lastOf W := by
  obtain ⟨u, hu, h1, h2⟩ := c
  obtain ⟨i, hi, rfl⟩ := List.getElem_of_mem hu
  have hl : W.getLast? = some (W[W.length - 1]'(by omega)) := by
    rw [List.getLast?_eq_getElem?, List.getElem?_eq_getElem (by omega)]
  unfold lastOf
  rw [hl]
  show x < (W[W.length - 1]'(by omega)).2
  by_cases e : i = W.length - 1
  · subst e
    exact h2
  · have p1 := (List.pairwise_iff_getElem.mp h.1) i (W.length - 1) hi (by omega) (by omega)
    have p2 := h.2 (W[W.length - 1]'(by omega)) (List.getElem_mem _)
    omega
theorem lak_ok {W A : List (Int × Int)} (hW : can W) (hA : can A) (w0 : ∀ u ∈ W, 0 ≤ u.1) (a0 : ∀ u ∈ A, 0 ≤ u.1) : can (lak W A) ∧ ∀ x, cov (lak W A) x ↔ cov W x ∧ ¬ cov A x := by
  unfold lak
  split
  · rename_i e
    subst e
    exact ⟨hW, fun x => ⟨fun c => absurd c cov_nil, fun c => absurd c.1 cov_nil⟩⟩
  · obtain ⟨r1, r2, r3⟩ := unt_ok (lastOf W) A 0 hA a0
    refine ⟨meet_can hW r1, fun x => ?_⟩
    rw [meet_cov hW r1]
    constructor
    · rintro ⟨c1, c2⟩
      exact ⟨c1, ((r3 x (le_last hW c1)).mp c2).2⟩
    · rintro ⟨c1, c2⟩
      obtain ⟨u, hu, h1, h2⟩ := id c1
      have := w0 u hu
      exact ⟨c1, (r3 x (le_last hW c1)).mpr ⟨by omega, c2⟩⟩
theorem lak_len (W A : List (Int × Int)) : (lak W A).length ≤ W.length + A.length + 1 := by
  unfold lak
  split
  · exact Nat.zero_le _
  · rw [List.length_map]
    have h1 := meet_len W (unt 0 (lastOf W) A)
    have h2 := unt_len (lastOf W) A 0
    omega
/-! ### parts by the sign of each place -/
def txtF (f : Int → Nat) (a b : Int) : Str := ⟨((List.range (b - a).toNat).map fun i => f (a + (i : Nat))).toArray⟩
def partsF (f : Int → Nat) (S : List (Int × Int)) : List Prt := S.map fun u => (u.1, txtF f u.1 u.2)
theorem txtF_len (f : Int → Nat) (a b : Int) : (txtF f a b).length = (b - a).toNat := by
  unfold txtF
  rw [mk_len, List.length_map, List.length_range]
theorem tb_partsF {f : Int → Nat} {S : List (Int × Int)} (h : can S) : (partsF f S).map tb = S := by
  unfold partsF
  rw [List.map_map]
  have e : ∀ u ∈ S, (tb ∘ fun u : Int × Int => (u.1, txtF f u.1 u.2)) u = u := fun u hu => by
    show (u.1, u.1 + ((txtF f u.1 u.2).length : Int)) = u
    rw [txtF_len]
    have := h.2 u hu
    exact Prod.ext rfl (by dsimp only; omega)
  rw [List.map_congr_left e, List.map_id']
theorem range_cut (g : Nat → Nat) (n k m : Nat) (h : k + m ≤ n) : (((List.range n).map g).drop k).take m = (List.range m).map fun i => g (k + i) := by
  apply List.ext_getElem
  · rw [List.length_take, List.length_drop, List.length_map, List.length_map, List.length_range, List.length_range]
    omega
  · intro i h1 h2
    rw [List.getElem_take, List.getElem_drop, List.getElem_map, List.getElem_map, List.getElem_range, List.getElem_range]
theorem txtF_cut {f : Int → Nat} {a b s t : Int} (h1 : a ≤ s) (h2 : s ≤ t) (h3 : t ≤ b) : cutS (txtF f a b) (some (s - a)) (some (t - a)) = txtF f s t := by
  obtain ⟨k, hk⟩ : ∃ k : Nat, s - a = k := ⟨(s - a).toNat, by omega⟩
  obtain ⟨m, hm⟩ : ∃ m : Nat, t - a = m := ⟨(t - a).toNat, by omega⟩
  unfold cutS
  rw [hk, hm, HT.sIx_nat, HT.sIx_nat, txtF_len]
  have e1 : min k (b - a).toNat = k := by omega
  have e2 : min m (b - a).toNat = m := by omega
  rw [e1, e2]
  unfold txtF
  rw [show (((List.range (b - a).toNat).map fun i => f (a + (i : Nat))).toArray).toList = (List.range (b - a).toNat).map fun i => f (a + (i : Nat)) from rfl, range_cut _ _ _ _ (by omega), show (t - s).toNat = m - k by omega]
  have e3 : (fun i : Nat => f (a + ((k + i : Nat) : Int))) = fun i : Nat => f (s + (i : Nat)) := by
    funext i
    congr 1
    omega
  rw [e3]
theorem txtF_app {f : Int → Nat} {a b c : Int} (h1 : a ≤ b) (h2 : b ≤ c) : txtF f a b ++ txtF f b c = txtF f a c := by
  refine PyProof.Rows.ext_toList ?_
  have e : (txtF f a b ++ txtF f b c).cps.toList = (txtF f a b).cps.toList ++ (txtF f b c).cps.toList := Array.toList_append
  rw [e]
  unfold txtF
  show ((List.range (b - a).toNat).map fun i => f (a + (i : Nat))) ++ ((List.range (c - b).toNat).map fun i => f (b + (i : Nat))) = (List.range (c - a).toNat).map fun i => f (a + (i : Nat))
  rw [show (c - a).toNat = (b - a).toNat + (c - b).toNat by omega, List.range_add, List.map_append, List.map_map]
  congr 1
  refine List.map_congr_left fun i _ => ?_
  show f (b + (i : Nat)) = f (a + (((b - a).toNat + i : Nat) : Int))
  congr 1
  omega
theorem txtF_congr {f g : Int → Nat} {a b : Int} (h : ∀ x, a ≤ x → x < b → f x = g x) : txtF f a b = txtF g a b := by
  unfold txtF
  congr 2
  refine List.map_congr_left fun i hi => ?_
  have := List.mem_range.mp hi
  exact h _ (by omega) (by omega)
theorem partsF_congr {f g : Int → Nat} {S : List (Int × Int)} (h : ∀ x, cov S x → f x = g x) : partsF f S = partsF g S := by
  unfold partsF
  refine List.map_congr_left fun u hu => ?_
  rw [txtF_congr fun x h1 h2 => h x ⟨u, hu, h1, h2⟩]
/-! ### put together -/
def stepJ : List (Int × Int) → Int × Int → List (Int × Int)
  | [], p => [p]
  | q :: r, p => if q.2 = p.1 then (q.1, p.2) :: r else p :: q :: r
theorem stepJ_cons (q p : Int × Int) (r : List (Int × Int)) : stepJ (q :: r) p = if q.2 = p.1 then (q.1, p.2) :: r else p :: q :: r := rfl
theorem foldJ_ok : ∀ (S acc : List (Int × Int)), (S.Pairwise fun u v => u.2 ≤ v.1) → (∀ u ∈ S, u.1 < u.2) → (acc.Pairwise fun q u => u.2 < q.1) → (∀ u ∈ acc, u.1 < u.2) → (∀ u ∈ acc, ∀ p ∈ S, u.2 ≤ p.1) →
    ((S.foldl stepJ acc).Pairwise fun q u => u.2 < q.1) ∧ (∀ u ∈ S.foldl stepJ acc, u.1 < u.2) ∧ ∀ x, cov (S.foldl stepJ acc) x ↔ cov acc x ∨ cov S x
  | [], acc, _, _, h3, h4, _ => ⟨h3, h4, fun x => ⟨.inl, fun c => c.elim id fun c => absurd c cov_nil⟩⟩
  | p :: S, acc, h1, h2, h3, h4, h5 => by
    have hp := h2 p (List.mem_cons_self ..)
    have hS := List.pairwise_cons.mp h1
    have st : ((stepJ acc p).Pairwise fun q u => u.2 < q.1) ∧ (∀ u ∈ stepJ acc p, u.1 < u.2) ∧ (∀ u ∈ stepJ acc p, u.2 ≤ p.2) ∧ ∀ x, cov (stepJ acc p) x ↔ cov acc x ∨ (p.1 ≤ x ∧ x < p.2) := by
      cases acc with
      | nil =>
        refine ⟨List.pairwise_singleton _ _, fun u hu => ?_, fun u hu => ?_, fun x => ?_⟩
        · rw [List.mem_singleton.mp hu]
          exact hp
        · rw [List.mem_singleton.mp hu]
          exact Int.le_refl _
        · show cov [p] x ↔ _
          rw [cov_cons]
          exact Or.comm
      | cons q r =>
        have hq := h4 q (List.mem_cons_self ..)
        have hqp := h5 q (List.mem_cons_self ..) p (List.mem_cons_self ..)
        have hr := List.pairwise_cons.mp h3
        rw [stepJ_cons]
        by_cases c : q.2 = p.1
        · rw [if_pos c]
          refine ⟨List.pairwise_cons.mpr ⟨fun u hu => hr.1 u hu, hr.2⟩, fun u hu => ?_, fun u hu => ?_, fun x => ?_⟩
          · rcases List.mem_cons.mp hu with rfl | hu
            · dsimp only
              omega
            · exact h4 u (List.mem_cons_of_mem _ hu)
          · rcases List.mem_cons.mp hu with rfl | hu
            · exact Int.le_refl _
            · have := h5 u (List.mem_cons_of_mem _ hu) p (List.mem_cons_self ..)
              omega
          · rw [cov_cons, cov_cons]
            dsimp only
            constructor
            · rintro (⟨a, b⟩ | k)
              · by_cases d : x < q.2
                · exact .inl (.inl ⟨a, d⟩)
                · exact .inr ⟨by omega, b⟩
              · exact .inl (.inr k)
            · rintro ((⟨a, b⟩ | k) | ⟨a, b⟩)
              · exact .inl ⟨a, by omega⟩
              · exact .inr k
              · exact .inl ⟨by omega, b⟩
        · rw [if_neg c]
          refine ⟨List.pairwise_cons.mpr ⟨fun u hu => ?_, h3⟩, fun u hu => ?_, fun u hu => ?_, fun x => ?_⟩
          · rcases List.mem_cons.mp hu with rfl | hu
            · omega
            · have := hr.1 u hu
              omega
          · rcases List.mem_cons.mp hu with rfl | hu
            · exact hp
            · exact h4 u hu
          · rcases List.mem_cons.mp hu with rfl | hu
            · exact Int.le_refl _
            · have := h5 u hu p (List.mem_cons_self ..)
              omega
          · rw [cov_cons]
            exact Or.comm
    obtain ⟨s1, s2, s3, s4⟩ := st
    obtain ⟨r1, r2, r3⟩ := foldJ_ok S (stepJ acc p) hS.2 (fun u hu => h2 u (List.mem_cons_of_mem _ hu)) s1 s2 fun u hu v hv => by
      have a := s3 u hu
      have b := hS.1 v hv
      omega
    refine ⟨r1, r2, fun x => ?_⟩
    show cov (S.foldl stepJ (stepJ acc p)) x ↔ _
    rw [r3, s4, cov_cons, or_assoc]
def inC (A : List (Int × Int)) (x : Int) : Bool := A.any fun u => decide (u.1 ≤ x) && decide (x < u.2)
theorem inC_iff {A : List (Int × Int)} {x : Int} : inC A x = true ↔ cov A x := by
  unfold inC
  rw [List.any_eq_true]
  constructor
  · rintro ⟨u, hu, h⟩
    simp only [Bool.and_eq_true, decide_eq_true_eq] at h
    exact ⟨u, hu, h⟩
  · rintro ⟨u, hu, h⟩
    exact ⟨u, hu, by simpa using h⟩
def sel (A : List (Int × Int)) (f g : Int → Nat) (x : Int) : Nat := if inC A x = true then f x else g x
def jn (S : List (Int × Int)) : List (Int × Int) := (S.foldl stepJ []).reverse
theorem jn_ok {S : List (Int × Int)} (h1 : S.Pairwise fun u v => u.2 ≤ v.1) (h2 : ∀ u ∈ S, u.1 < u.2) : can (jn S) ∧ ∀ x, cov (jn S) x ↔ cov S x := by
  obtain ⟨r1, r2, r3⟩ := foldJ_ok S [] h1 h2 List.Pairwise.nil (fun _ h => nomatch h) (fun _ h => nomatch h)
  refine ⟨⟨List.pairwise_reverse.mpr r1, fun u hu => r2 u (List.mem_reverse.mp hu)⟩, fun x => ?_⟩
  have e1 : cov (jn S) x ↔ cov (S.foldl stepJ []) x := by
    constructor
    · rintro ⟨u, hu, k⟩
      exact ⟨u, List.mem_reverse.mp hu, k⟩
    · rintro ⟨u, hu, k⟩
      exact ⟨u, List.mem_reverse.mpr hu, k⟩
  rw [e1, r3]
  exact ⟨fun c => c.elim (fun c => absurd c cov_nil) id, .inr⟩
/-- what is sorted by its beginnings, no two of them on one place -/
theorem apart {S T : List (Int × Int)} (hp : S.Perm T) (hT : T.Pairwise fun u v => u.2 ≤ v.1 ∨ v.2 ≤ u.1) (h2 : ∀ u ∈ T, u.1 < u.2) (hs : S.Pairwise fun u v => u.1 ≤ v.1) : S.Pairwise fun u v => u.2 ≤ v.1 := by
  have h1 : S.Pairwise fun u v => u.2 ≤ v.1 ∨ v.2 ≤ u.1 := (hp.pairwise_iff fun {x y} h => h.symm).mpr hT
  rw [List.pairwise_iff_getElem] at h1 hs ⊢
  intro i j hi hj hij
  have a := h1 i j hi hj hij
  have b := hs i j hi hj hij
  have c := h2 S[j] (hp.mem_iff.mp (List.getElem_mem hj))
  omega
theorem apart2 {A C : List (Int × Int)} (hA : can A) (hC : can C) (hd : ∀ x, cov A x → ¬ cov C x) : (A ++ C).Pairwise fun u v => u.2 ≤ v.1 ∨ v.2 ≤ u.1 := by
  refine List.pairwise_append.mpr ⟨hA.1.imp fun h => .inl (by omega), hC.1.imp fun h => .inl (by omega), fun u hu v hv => ?_⟩
  have a := hA.2 u hu
  have b := hC.2 v hv
  by_cases c : u.2 ≤ v.1
  · exact .inl c
  · by_cases d : v.2 ≤ u.1
    · exact .inr d
    · exfalso
      by_cases e : u.1 ≤ v.1
      · exact hd v.1 ⟨u, hu, e, by omega⟩ ⟨v, hv, Int.le_refl _, b⟩
      · exact hd u.1 ⟨u, hu, Int.le_refl _, a⟩ ⟨v, hv, by omega, by omega⟩

end My
namespace My
open PySem PySem.Spec PyProof.Rows L2 TL
theorem paired_snoc {α β : Type} {R : α → β → Prop} : ∀ {xs : List α} {ys : List β} {y : β}, Paired R xs (ys ++ [y]) → ∃ xs' x, xs = xs' ++ [x] ∧ Paired R xs' ys ∧ R x y
  | _, [], _, .cons r .nil => ⟨[], _, rfl, .nil, r⟩
  | _, _ :: ys, y, .cons r t => by
    obtain ⟨xs', x, rfl, h, hr⟩ := paired_snoc (ys := ys) (y := y) t
    exact ⟨_ :: xs', x, rfl, .cons r h, hr⟩
theorem ixN_last (n : Nat) : ixN (n + 1) (-1) = some n := by
  unfold ixN
  rw [if_neg (by decide), if_pos (by omega)]
  congr 1
  omega
theorem set_last {α : Type} (xs : List α) (x v : α) : (xs ++ [x]).set xs.length v = xs ++ [v] := by
  rw [List.set_append_right _ _ (Nat.le_refl _), Nat.sub_self]
  rfl

section
variable {P : Program} {w : World} {K : PySem.W.Frag} {mg : Str → Option Value} {base : Heap}
def spLack : Sp := fun vs H Q _ => ∃ (a b : Addr) (xs ys : List V) (W : List (Int × Int)) (ps : List Prt), vs = [.ref a, .ref b] ∧ IsS H a xs ∧ Paired (PS2 H) xs (W.map iv) ∧ IsS H b ys ∧ Paired (PT2 H) ys ps ∧ okP ps ∧ W.length ≤ 2000 ∧
  ∀ p zs H', H p = none → Same H H' → H' p = some (.lst zs) → Paired (PS2 H') zs ((lak W (ps.map tb)).map iv) → Q (.ref p) H'
theorem ok_lacking (T : Txt K mg) : FnOk P w K mg base CX0 3 T.f_lacking T.fd_lacking ["wanted", "parts"] spLack := by
  refine T.d_lacking.F.ok sc_lacking (fun vs H Q E h => ?_) (fun cdv A outer s H vs Q E hr h => ?_)
  · obtain ⟨a, b, xs, ys, W, ps, rfl, _⟩ := h
    rfl
  · obtain ⟨a, b, xs, ys, W, ps, rfl, ha, hx, hb, hy, hok, hl, q⟩ := h
    refine ⟨_, (pss_cons (ps_if (pt_cmpR op_eq (pe_callB call_len_seq (by rfl) T.m_len (by decide +kernel) (pa_cons (pv 0) pa_nil)) pe_int (nomark _))
      (pss_one (ps_ret (pe_lst pa_nil)))
      pss_nil)
      (pss_cons (ps_set (i := 2) sc_lacking.nd rfl (.inl rfl) (pe_call (ok_untold_by T) (hr.mono (by decide)) (by rfl) T.d_untold_by.g T.d_untold_by.F.kp T.d_untold_by.b .nil pass0 (pa_cons (pv 1) (pa_cons (pe_ix ix_tup (pe_ix ix_seq (pv 0) (pe_un un_neg pe_int) (fun _ _ => rfl)) pe_int (fun _ _ => rfl)) pa_nil))))
      (pss_one (ps_ret (pe_lc (own := [("at", 3), ("start", 4), ("stop", 5)]) (g := gTup K 3 (gCons (gName 3) (gCons (gName 4) (gCons (gName 5) gNil)))) (tt := tYes) (by rfl) sc_lacking.nd (pi_list (pe_call (ok_meetings T) (hr.mono (by decide)) (by rfl) T.d_meetings.g T.d_meetings.F.kp T.d_meetings.b .nil pass0 (pa_cons (pv 0) (pa_cons (pv 2) pa_nil)))) (blkOk_by (own := [("at", 3), ("start", 4), ("stop", 5)]) (N := ["wanted", "parts", "untold", "at", "start", "stop"]) (sc := defScope s_lacking) (by decide +kernel)) (fun _ _ _ _ _ => (pg_tup rfl (pgs_cons (pg_name (i := 3) sc_lacking.nd rfl (Or.inl rfl)) (pgs_cons (pg_name (i := 4) sc_lacking.nd rfl (Or.inl rfl)) (pgs_cons (pg_name (i := 5) sc_lacking.nd rfl (Or.inl rfl)) pgs_nil))))) (fun _ _ _ _ _ => pts_nil) (fun _ _ _ _ _ => (pe_tup (pa_cons (pv 4) (pa_cons (pv 5) pa_nil))))))))), ?_⟩
    have lx : xs.length = W.length := (Paired.length hx).trans (List.length_map ..)
    refine ⟨.ref a, rfl, a, _, rfl, ha.or, rfl, _, rfl, ite2 (fun e => ?_) (fun e => ?_)⟩
    · have e0 : ((xs.length : Nat) : Int) = 0 := V.int.inj (of_decide_eq_true e)
      have en : W = [] := List.eq_nil_of_length_eq_zero (by omega)
      unfold lak at q
      rw [if_pos en] at q
      exact ⟨Nat.zero_le _, fun p hp => q p [] _ hp (same_upd hp) upd_same .nil⟩
    · have en : W ≠ [] := fun z => e (decide_eq_true (by rw [z] at lx; rw [lx]; rfl))
      unfold lak at q
      rw [if_neg en] at q
      obtain ⟨W', u, hW⟩ : ∃ W' u, W = W' ++ [u] := ⟨W.dropLast, W.getLast en, (List.dropLast_concat_getLast en).symm⟩
      have hlast : lastOf W = u.2 := by
        unfold lastOf
        rw [hW, List.getLast?_concat]
        rfl
      have hx' := hx
      rw [hW, List.map_append] at hx'
      obtain ⟨xs', x, exs, _, t, rfl, ht⟩ := paired_snoc hx'
      have al : atI xs (-1) = some (.ref t) := by
        rw [exs]
        exact atI_last _ _
      have u1 : atI [V.int u.1, V.int u.2] 1 = some (.int u.2) := rfl
      have lt := unt_len (lastOf W) (ps.map tb) 0
      rw [List.length_map] at lt
      have l1 := hok.1
      refine ⟨.ref b, rfl, .ref a, rfl, 1, rfl, rix_of ha al ⟨t, _, 1, _, rfl, rfl, SqT.of ht, u1, b, ys, ps, u.2, rfl, hb, hy, hok, fun c us H1 nc s1 hc hu => ?_⟩⟩
      rw [← hlast] at hu
      refine ⟨.ref a, rfl, .ref c, rfl, a, c, xs, us, W, unt 0 (lastOf W) (ps.map tb), rfl, ha.mono s1, .inl hc, ps2s_mono s1 hx, hu, by omega, fun d ms H2 nd s2 hd hm => ?_⟩
      have lm : ms.length = (meet W (unt 0 (lastOf W) (ps.map tb))).length := Paired.length hm
      have lM := meet_len W (unt 0 (lastOf W) (ps.map tb))
      generalize meet W (unt 0 (lastOf W) (ps.map tb)) = M at *
      refine ⟨d, rfl, ⟨_, SqL.of hd⟩, fun D hD => ?_⟩
      refine lc_list (K := K) (a := d) (xs := ms) (fun i H' => Same H2 H' ∧ ∃ zs, H' D = some (.lst zs) ∧ Paired (PS2 H') zs (((M.take i).map (·.2)).map iv)) ⟨same_upd hD, [], upd_same, .nil⟩ (fun i H' _ pv => SqL.of (pv.1 _ _ hd)) ?_ ?_
      · rintro i x H3 hi ⟨s3, zs, eD, hz⟩
        obtain ⟨p, hp, r, rfl, hr'⟩ := paired_at hm hi
        have hil : i < M.length := (List.getElem?_eq_some_iff.mp hp).1
        refine ⟨r, _, rfl, SqT.of (s3 _ _ hr'), rfl, _, _, rfl, _, _, rfl, _, _, rfl, rfl, rfl, _, rfl, _, rfl, (by show 2 ≤ sizeLine; decide), fun q2 hq2 => ?_⟩
        have s4 := same_upd (o := .tup [.int p.2.1, .int p.2.2]) hq2
        have eD2 := s4 _ _ eD
        have hzl := Paired.length hz
        rw [List.length_map, List.length_map, List.length_take] at hzl
        refine ⟨zs, eD2, szlt (by omega), same_mut (s3.trans s4) hD, zs ++ [.ref q2], upd_same, ?_⟩
        rw [take_map (fun p : Nat × Int × Int => p.2) hp, List.map_append]
        exact ps2s_upd eD2 (fun _ z => by cases z) (paired_app (ps2s_mono s4 hz) (.cons ⟨q2, rfl, upd_same⟩ .nil))
      · rintro H3 ⟨s3, zs, eD, hz⟩
        rw [lm, List.take_length] at hz
        exact q D zs H3 ((s1.trans s2).free hD) ((s1.trans s2).trans s3) eD hz
def wide (A : List (Int × Int)) : Prop := ∀ u ∈ A, u.2 - u.1 ≤ 20000
theorem okP_partsF {f : Int → Nat} {A : List (Int × Int)} (h1 : A.length ≤ 2000) (h2 : wide A) : okP (partsF f A) := by
  refine ⟨by unfold partsF; rw [List.length_map]; exact h1, fun p hp => ?_⟩
  obtain ⟨u, hu, rfl⟩ := List.mem_map.mp hp
  have := h2 u hu
  show (txtF f u.1 u.2).length ≤ _
  rw [txtF_len]
  omega
def spCut : Sp := fun vs H Q _ => ∃ (a b : Addr) (xs ys : List V) (f : Int → Nat) (A B : List (Int × Int)), vs = [.ref a, .ref b] ∧ IsS H a xs ∧ Paired (PT2 H) xs (partsF f A) ∧ IsS H b ys ∧ Paired (PS2 H) ys (B.map iv) ∧ can A ∧ can B ∧ A.length ≤ 2000 ∧ B.length ≤ 5000 ∧ wide A ∧
  ∀ p zs H', H p = none → Same H H' → H' p = some (.lst zs) → Paired (PT2 H') zs (partsF f ((meet A B).map (·.2))) → Q (.ref p) H'
theorem ok_cut (T : Txt K mg) : FnOk P w K mg base CX0 2 T.f_cut T.fd_cut ["parts", "wanted"] spCut := by
  refine T.d_cut.F.ok sc_cut (fun vs H Q E h => ?_) (fun cdv A outer s H vs Q E hr h => ?_)
  · obtain ⟨a, b, xs, ys, f, A, B, rfl, _⟩ := h
    rfl
  · obtain ⟨a, b, xs, ys, f, A, B, rfl, ha, hx, hb, hy, cA, cB, lA, lB, wA, q⟩ := h
    refine ⟨_, (pss_cons (ps_set (i := 2) sc_cut.nd rfl (.inl rfl) (pe_lst pa_nil))
      (pss_cons (ps_for PassesOwn.never rfl (pi_list (pe_call (ok_meetings T) (hr.mono (by decide)) (by rfl) T.d_meetings.g T.d_meetings.F.kp T.d_meetings.b .nil pass0 (pa_cons (pe_call (ok_told_by T) (hr.mono (by decide)) (by rfl) T.d_told_by.g T.d_told_by.F.kp T.d_told_by.b .nil pass0 (pa_cons (pv 0) pa_nil)) (pa_cons (pv 1) pa_nil)))) (pg_tup rfl (pgs_cons (pg_name (i := 3) sc_cut.nd rfl (.inl rfl)) (pgs_cons (pg_name (i := 4) sc_cut.nd rfl (.inl rfl)) (pgs_cons (pg_name (i := 5) sc_cut.nd rfl (.inl rfl)) pgs_nil))))
      (pss_cons (ps_asg (pe_ix ix_seq (pv 0) (pv 3) (fun _ _ => rfl)) (pg_tup rfl (pgs_cons (pg_name (i := 6) sc_cut.nd rfl (.inl rfl)) (pgs_cons (pg_name (i := 7) sc_cut.nd rfl (.inl rfl)) pgs_nil))))
      (pss_one (ps_expr (pe_bm PySem.F.plainAttrs_list PySem.F.slot_list_append PySem.F.type_list_append mt_append (pv 2) (pa_cons (pe_tup (pa_cons (pv 4) (pa_cons (pe_slice sl_str (pv 7) (po_some (pe_op op_sub (pv 4) (pv 6))) (po_some (pe_op op_sub (pv 5) (pv 6)))) pa_nil))) pa_nil))))))
      (pss_one (ps_ret (pv 2))))), ?_⟩
    refine ⟨Nat.zero_le _, fun L hL => ?_⟩
    have sL := same_upd (o := .lst []) hL
    refine ⟨.ref a, rfl, a, xs, partsF f A, rfl, ha.mono sL, pt2s_mono sL hx, okP_partsF lA wA, fun c us H1 nc s1 hc hu => ?_⟩
    rw [tb_partsF cA] at hu
    have t1 := sL.trans s1
    refine ⟨.ref b, rfl, c, b, us, ys, A, B, rfl, .inl hc, hb.mono t1, hu, ps2s_mono t1 hy, by omega, fun d ms H2 nd s2 hd hm => ?_⟩
    have t2 := t1.trans s2
    have eL2 := s2 _ _ (s1 _ _ (show (upd H L (.lst [])) L = some (.lst []) from upd_same))
    have ndL : d ≠ L := fun z => by
      have := s1 _ _ (show (upd H L (.lst [])) L = some (.lst []) from upd_same)
      rw [← z, nd] at this
      cases this
    have lm : ms.length = (meet A B).length := Paired.length hm
    have lM := meet_len A B
    have hat := fun p (hp : p ∈ meet A B) => meet_at cA cB hp
    generalize meet A B = M at *
    refine ⟨d, rfl, ⟨_, SqL.of hd⟩, for_list (K := K) (a := d) (xs := ms) (fun i σ H' => Same H H' ∧ H' d = some (.lst ms) ∧ Paired (PM3 H') ms M ∧ ∃ (zs : List V) (y3 y4 y5 y6 y7 : Option V), H' L = some (.lst zs) ∧ Paired (PT2 H') zs (partsF f ((M.take i).map (·.2))) ∧ σ = [some (.ref a), some (.ref b), some (.ref L), y3, y4, y5, y6, y7])
      ⟨t2, hd, hm, [], none, none, none, none, none, eL2, .nil, rfl⟩ (fun i σ H' _ pv => SqL.of pv.2.1) ?_ ?_⟩
    · rintro i x σ H3 hi ⟨s3, ed, hm3, zs, y3, y4, y5, y6, y7, eL, hz, rfl⟩
      obtain ⟨p, hp, r, rfl, hr'⟩ := paired_at hm3 hi
      have hil : i < M.length := (List.getElem?_eq_some_iff.mp hp).1
      obtain ⟨p1, u, hu', pu1, pu2⟩ := hat p (List.mem_of_getElem? hp)
      have hkA : p.1 < A.length := (List.getElem?_eq_some_iff.mp hu').1
      have wu := wA u (List.mem_of_getElem? hu')
      obtain ⟨xv, hxv⟩ : ∃ x, xs[p.1]? = some x := by
        have lx : xs.length = A.length := by
          have := Paired.length hx
          unfold partsF at this
          rw [List.length_map] at this
          exact this
        exact ⟨xs[p.1]'(by omega), List.getElem?_eq_getElem (by omega)⟩
      obtain ⟨pt, hpt, t2', rfl, ht2⟩ := paired_at hx hxv
      unfold partsF at hpt
      rw [List.getElem?_map, hu'] at hpt
      cases hpt
      have ht3 := s3 _ _ ht2
      refine ⟨r, _, rfl, SqT.of hr', rfl, _, _, rfl, _, _, rfl, _, _, rfl, rfl, ?_⟩
      refine ⟨.ref a, rfl, _, rfl, rix_of (ha.mono s3) (atI_nat hxv) ⟨t2', _, rfl, SqT.of ht3, rfl, _, _, rfl, _, _, rfl, rfl, ?_⟩⟩
      refine ⟨.ref L, rfl, .inl ⟨rfl, _, SqL.of eL⟩, _, rfl, _, rfl, _, rfl, _, rfl, _, _, rfl, rfl, _, rfl, _, rfl, _, rfl, _, _, rfl, rfl, _, rfl, _, rfl, by rw [txtF_len]; exact szl (by omega), (by show 2 ≤ sizeLine; decide), fun q2 hq2 => ?_⟩
      have ec : cutS (txtF f u.1 u.2) (some (p.2.1 - u.1)) (some (p.2.2 - u.1)) = txtF f p.2.1 p.2.2 := txtF_cut pu1 (by omega) pu2
      have s4 := same_upd (o := .tup [.int p.2.1, .str (cutS (txtF f u.1 u.2) (some (p.2.1 - u.1)) (some (p.2.2 - u.1)))]) hq2
      have eL4 := s4 _ _ eL
      have hzl := Paired.length hz
      unfold partsF at hzl
      rw [List.length_map, List.length_map, List.length_take] at hzl
      refine ⟨L, _, _, rfl, rfl, eL4, szlt (by omega), same_mut (s3.trans s4) hL, by rw [upd_ne ndL]; exact s4 _ _ ed, pm3s_upd eL4 (fun _ z => by cases z) (pm3s_mono s4 hm3), zs ++ [.ref q2], _, _, _, _, _, upd_same, ?_, rfl⟩
      rw [take_map (fun p : Nat × Int × Int => p.2) hp]
      unfold partsF
      rw [List.map_append]
      have eq2 : PT2 (upd H3 q2 (.tup [.int p.2.1, .str (cutS (txtF f u.1 u.2) (some (p.2.1 - u.1)) (some (p.2.2 - u.1)))])) (.ref q2) (p.2.1, txtF f p.2.1 p.2.2) := by
        rw [← ec]
        exact ⟨q2, rfl, upd_same⟩
      exact pt2s_upd eL4 (fun _ z => by cases z) (paired_app (pt2s_mono s4 hz) (.cons eq2 .nil))
    · rintro σ H3 ⟨s3, ed, hm3, zs, y3, y4, y5, y6, y7, eL, hz, rfl⟩
      rw [lm, List.take_length] at hz
      exact ⟨.ref L, rfl, q L zs H3 hL s3 eL hz⟩

end
end My
namespace My
open PySem PySem.Spec PyProof.Rows L2 TL
section
variable {P : Program} {w : World} {K : PySem.W.Frag} {mg : Str → Option Value} {base : Heap}
/-! ### put together -/
theorem dataLe_is {B : Type} (x : B → Int) (y : B → Str) (p q : B) (h : PySem.W.dataLe false (fun b => .tuple [.int (x b), .str (y b)]) p q = true) : x p ≤ x q := by
  have e : PySem.W.dataLt (.tuple [.int (x q), .str (y q)]) (.tuple [.int (x p), .str (y p)]) = false := by
    have h' : (!PySem.W.dataLt (.tuple [.int (x q), .str (y q)]) (.tuple [.int (x p), .str (y p)])) = true := h
    simpa using h'
  rw [PySem.W.dataLt_pair (by simp [PySem.W.alike]) (by simp [PySem.W.alike]), PySem.W.dataLt_int] at e
  simp only [PyData.eqv, beq_iff_eq] at e
  by_cases h1 : x q = x p
  · omega
  · rw [if_neg h1] at e
    have := of_decide_eq_false e
    omega
theorem pt2_bs {H : Hp} : ∀ {zs : List V} {ps : List Prt}, Paired (PT2 H) zs ps → ∃ bs : List (Addr × Int × Str), zs = bs.map (fun b => V.ref b.1) ∧ bs.map (·.2) = ps ∧ ∀ b ∈ bs, H b.1 = some (.tup [.int b.2.1, .str b.2.2])
  | _, _, .nil => ⟨[], rfl, rfl, fun _ h => nomatch h⟩
  | _, p :: _, .cons ⟨t, e, h⟩ r => by
    obtain ⟨bs, e1, e2, h3⟩ := pt2_bs r
    refine ⟨(t, p) :: bs, by rw [e, e1]; rfl, by rw [← e2]; rfl, fun b hb => ?_⟩
    rcases List.mem_cons.mp hb with rfl | hb
    · exact h
    · exact h3 b hb
theorem tb_one {f : Int → Nat} {u : Int × Int} (h : u.1 < u.2) : tb (u.1, txtF f u.1 u.2) = u := by
  unfold tb
  dsimp only
  rw [txtF_len]
  exact Prod.ext rfl (by dsimp only; omega)
def inR (lo : Int) (A : List (Int × Int)) : Prop := 0 ≤ lo ∧ ∀ u ∈ A, lo ≤ u.1 ∧ u.2 ≤ lo + 20000
theorem inR.wide {lo : Int} {A : List (Int × Int)} (h : inR lo A) : wide A := fun u hu => by
  have := h.2 u hu
  omega
theorem inR.pos {lo : Int} {A : List (Int × Int)} (h : inR lo A) : ∀ u ∈ A, 0 ≤ u.1 := fun u hu => by
  have := h.2 u hu
  have := h.1
  omega
theorem rng_of {U : List (Int × Int)} {lo hi : Int} (h : ∀ x, cov U x → lo ≤ x ∧ x < hi) {u : Int × Int} (hu : u ∈ U) (hl : u.1 < u.2) : lo ≤ u.1 ∧ u.2 ≤ hi := by
  have a := h u.1 ⟨u, hu, Int.le_refl _, hl⟩
  have b := h (u.2 - 1) ⟨u, hu, by omega, by omega⟩
  omega
def spJoined : Sp := fun vs H Q _ => ∃ (a b : Addr) (xs ys : List V) (f g : Int → Nat) (A B : List (Int × Int)) (lo : Int), vs = [.ref a, .ref b] ∧ IsS H a xs ∧ Paired (PT2 H) xs (partsF f A) ∧ IsS H b ys ∧ Paired (PT2 H) ys (partsF g B) ∧ can A ∧ can B ∧ A.length ≤ 600 ∧ B.length ≤ 600 ∧ inR lo A ∧ inR lo B ∧
  ∀ p zs U H', H p = none → Same H H' → H' p = some (.lst zs) → can U → (∀ x, cov U x ↔ cov A x ∨ cov B x) → Paired (PT2 H') zs (partsF (sel A f g) U) → Q (.ref p) H'
theorem ok_joined (T : Txt K mg) : FnOk P w K mg base CX0 4 T.f_joined T.fd_joined ["ones", "others"] spJoined := by
  refine T.d_joined.F.ok sc_joined (fun vs H Q E h => ?_) (fun cdv A outer s H vs Q E hr h => ?_)
  · obtain ⟨a, b, xs, ys, f, g, A, B, lo, rfl, _⟩ := h
    rfl
  · obtain ⟨a, b, xs, ys, f, g, A, B, lo, rfl, ha, hx, hb, hy, cA, cB, lA, lB, rA, rB, q⟩ := h
    refine ⟨_, (pss_cons (ps_set (i := 2) sc_joined.nd rfl (.inl rfl) (pe_call (ok_cut T) (hr.mono (by decide)) (by rfl) T.d_cut.g T.d_cut.F.kp T.d_cut.b .nil pass0 (pa_cons (pv 1) (pa_cons (pe_call (ok_lacking T) (hr.mono (by decide)) (by rfl) T.d_lacking.g T.d_lacking.F.kp T.d_lacking.b .nil pass0 (pa_cons (pe_call (ok_told_by T) (hr.mono (by decide)) (by rfl) T.d_told_by.g T.d_told_by.F.kp T.d_told_by.b .nil pass0 (pa_cons (pv 1) pa_nil)) (pa_cons (pv 0) pa_nil))) pa_nil))))
      (pss_cons (ps_set (i := 3) sc_joined.nd rfl (.inl rfl) (pe_lst pa_nil))
      (pss_cons (ps_for PassesOwn.never rfl (pi_list (pe_callB (cr_sortB (fun b : Addr × Int × Str => V.ref b.1) (fun b => .tuple [.int b.2.1, .str b.2.2]) hr.units) (by rfl) T.m_sorted (by decide +kernel) (pa_cons (pe_op op_cat (pe_lc (own := [("start", 4), ("signs", 5)]) (g := gTup K 2 (gCons (gName 4) (gCons (gName 5) gNil))) (tt := tYes) (by rfl) sc_joined.nd (pi_seq (pv 0)) (blkOk_by (own := [("start", 4), ("signs", 5)]) (N := ["ones", "others", "rest", "found", "start", "signs"]) (sc := defScope s_joined) (by decide +kernel)) (fun _ _ _ _ _ => (pg_tup rfl (pgs_cons (pg_name (i := 4) sc_joined.nd rfl (Or.inl rfl)) (pgs_cons (pg_name (i := 5) sc_joined.nd rfl (Or.inl rfl)) pgs_nil)))) (fun _ _ _ _ _ => pts_nil) (fun _ _ _ _ _ => (pe_tup (pa_cons (pv 4) (pa_cons (pv 5) pa_nil))))) (pv 2)) pa_nil))) (pg_tup rfl (pgs_cons (pg_name (i := 4) sc_joined.nd rfl (.inl rfl)) (pgs_cons (pg_name (i := 5) sc_joined.nd rfl (.inl rfl)) pgs_nil)))
      (pss_one (ps_if (PW.pt (pw_and (pt_truth (pv 3) (by intro _; rfl)) (pw_and1 (pt_cmpR op_eq (pe_op op_add (pe_ix ix_tup (pe_ix ix_list (pv 3) (pe_un un_neg pe_int) (fun _ _ => rfl)) pe_int (fun _ _ => rfl)) (pe_callB call_len_str (by rfl) T.m_len (by decide +kernel) (pa_cons (pe_ix ix_tup (pe_ix ix_list (pv 3) (pe_un un_neg pe_int) (fun _ _ => rfl)) pe_int (fun _ _ => rfl)) pa_nil))) (pv 4) (nomark _)))))
      (pss_one (ps_asg (pe_tup (pa_cons (pe_ix ix_tup (pe_ix ix_list (pv 3) (pe_un un_neg pe_int) (fun _ _ => rfl)) pe_int (fun _ _ => rfl)) (pa_cons (pe_op op_add_str (pe_ix ix_tup (pe_ix ix_list (pv 3) (pe_un un_neg pe_int) (fun _ _ => rfl)) pe_int (fun _ _ => rfl)) (pv 5)) pa_nil))) (pg_sub (pv 3) (pe_un un_neg pe_int) set_list)))
      (pss_one (ps_expr (pe_bm PySem.F.plainAttrs_list PySem.F.slot_list_append PySem.F.type_list_append mt_append (pv 3) (pa_cons (pe_tup (pa_cons (pv 4) (pa_cons (pv 5) pa_nil))) pa_nil)))))))
      (pss_one (ps_ret (pv 3)))))), ?_⟩
    have okA : okP (partsF f A) := okP_partsF (by omega) rA.wide
    have okB : okP (partsF g B) := okP_partsF (by omega) rB.wide
    refine ⟨.ref b, rfl, .ref b, rfl, b, ys, partsF g B, rfl, hb, hy, okB, fun c us H1 nc s1 hc hu => ?_⟩
    rw [tb_partsF cB] at hu
    refine ⟨.ref a, rfl, c, a, us, xs, B, partsF f A, rfl, .inl hc, hu, ha.mono s1, pt2s_mono s1 hx, okA, by omega, fun d ws H2 nd s2 hd hw => ?_⟩
    rw [tb_partsF cA] at hw
    obtain ⟨cC, vC⟩ := lak_ok cB cA rB.pos rA.pos
    have lC := lak_len B A
    generalize lak B A = C at *
    have t2 := s1.trans s2
    refine ⟨b, d, ys, ws, g, B, C, rfl, hb.mono t2, pt2s_mono t2 hy, .inl hd, hw, cB, cC, by omega, by omega, rB.wide, fun r zs H3 nr s3 hr3 hz => ?_⟩
    have eC : (meet B C).map (·.2) = C := can_eq _ _ (meet_can cB cC) cC fun x => by
      rw [meet_cov cB cC, vC]
      exact ⟨fun k => k.2, fun k => ⟨k.1, k⟩⟩
    rw [eC] at hz
    have t3 := t2.trans s3
    refine ⟨Nat.zero_le _, fun L hL => ?_⟩
    have sL := same_upd (o := .lst []) hL
    have t4 := t3.trans sL
    have eL4 : (upd H3 L (.lst [])) L = some (.lst []) := upd_same
    have er4 := sL _ _ hr3
    have hz4 := pt2s_mono sL hz
    generalize hH4 : upd H3 L (.lst []) = H4 at *
    have nL : H L = none := t3.free hL
    have lx : xs.length = (partsF f A).length := Paired.length hx
    have lPA : (partsF f A).length = A.length := List.length_map ..
    refine ⟨.ref a, rfl, a, rfl, lc_seq (ha.mono t4) (fun D i H' => Same H4 H' ∧ ∃ bs : List (Addr × Int × Str), H' D = some (.lst (bs.map fun b => V.ref b.1)) ∧ bs.map (·.2) = (partsF f A).take i ∧ ∀ b ∈ bs, H' b.1 = some (.tup [.int b.2.1, .str b.2.2])) (fun D hD => ⟨same_upd hD, [], upd_same, rfl, fun _ h => nomatch h⟩) (fun D i H' _ _ pv => (ha.mono t4).eq pv.1) ?_ ?_⟩
    · rintro D i x H5 hD hi ⟨s5, bs, eD, eb, hbs⟩
      obtain ⟨p, hp, t, rfl, ht⟩ := paired_at hx hi
      have hil : i < (partsF f A).length := (List.getElem?_eq_some_iff.mp hp).1
      refine ⟨t, _, rfl, SqT.of (s5 _ _ (t4 _ _ ht)), rfl, _, _, rfl, _, _, rfl, rfl, rfl, _, rfl, _, rfl, (by show 2 ≤ sizeLine; decide), fun q2 hq2 => ?_⟩
      have s6 := same_upd (o := .tup [.int p.1, .str p.2]) hq2
      have eD2 := s6 _ _ eD
      have hbl : bs.length ≤ i := by
        have h1 : (bs.map (·.2)).length = ((partsF f A).take i).length := by rw [eb]
        rw [List.length_map, List.length_take] at h1
        omega
      refine ⟨_, eD2, by rw [List.length_map]; exact szlt (by omega), same_mut (s5.trans s6) hD, bs ++ [(q2, p)], by rw [upd_same, List.map_append]; rfl, ?_, fun b' hb' => ?_⟩
      · rw [List.map_append, eb, List.take_add_one, hp]
        rfl
      · rcases List.mem_append.mp hb' with h | h
        · exact tup_upd eD2 (fun _ z => by cases z) (s6 _ _ (hbs b' h))
        · rw [List.mem_singleton.mp h]
          exact tup_upd eD2 (fun _ z => by cases z) upd_same
    · rintro D H5 hD ⟨s5, bs1, eD, eb1, hbs1⟩
      rw [lx, List.take_length] at eb1
      obtain ⟨bs2, ez, eb2, hbs2⟩ := pt2_bs hz4
      have er5 := s5 _ _ er4
      rw [ez] at er5
      have hl1 : bs1.length = A.length := by
        have h1 : (bs1.map (·.2)).length = (partsF f A).length := by rw [eb1]
        rw [List.length_map] at h1
        omega
      have hl2 : bs2.length = C.length := by
        have h1 : (bs2.map (·.2)).length = (partsF g C).length := by rw [eb2]
        unfold partsF at h1
        rw [List.length_map, List.length_map] at h1
        omega
      refine ⟨.ref r, rfl, D, r, _, _, rfl, rfl, eD, er5, by rw [List.length_map, List.length_map]; exact szl (by omega), fun e he => ?_⟩
      rw [← List.map_append]
      have s6 := same_upd (o := .lst ((bs1 ++ bs2).map fun b => V.ref b.1)) he
      have hb6 : ∀ b' ∈ bs1 ++ bs2, (upd H5 e (.lst ((bs1 ++ bs2).map fun b => V.ref b.1))) b'.1 = some (.tup [.int b'.2.1, .str b'.2.2]) := fun b' hb' => by
        rcases List.mem_append.mp hb' with h | h
        · exact s6 _ _ (hbs1 b' h)
        · exact s6 _ _ (s5 _ _ (hbs2 b' h))
      have eh : (bs1 ++ bs2).map (·.2) = partsF (sel A f g) (A ++ C) := by
        rw [List.map_append, eb1, eb2, partsF_congr (f := f) (g := sel A f g) fun x hx' => ?_, partsF_congr (f := g) (g := sel A f g) fun x hx' => ?_]
        · unfold partsF
          rw [List.map_append]
        · unfold sel
          rw [if_neg (fun z => ((vC x).mp hx').2 (inC_iff.mp z))]
        · unfold sel
          rw [if_pos (inC_iff.mpr hx')]
      have hl : (bs1 ++ bs2).length ≤ 5000 := by
        rw [List.length_append]
        omega
      have e6 : (upd H5 e (.lst ((bs1 ++ bs2).map fun b => V.ref b.1))) e = some (.lst ((bs1 ++ bs2).map fun b => V.ref b.1)) := upd_same
      have t6 := (t4.trans s5).trans s6
      have eL6 := s6 _ _ (s5 _ _ eL4)
      generalize upd H5 e (.lst ((bs1 ++ bs2).map fun b => V.ref b.1)) = H6 at *
      generalize bs1 ++ bs2 = bs at *
      refine ⟨e, bs, rfl, SqL.of e6, fun b' hb' => .tup (SqT.of (hb6 b' hb')) (.cons (.int _) (.cons (.str _) .nil)), PySem.W.AllAlike.of (fun b b' => by simp [PySem.W.alike, PySem.W.alikeAll]), PySem.W.Sortable.tuples (fun b => ⟨_, _, rfl⟩), fun b _ => by simp [PyData.depth, PyData.depthAll], fun p hp => ?_⟩
      have hperm := sortB_perm (fun b : Addr × Int × Str => .tuple [.int b.2.1, .str b.2.2]) bs
      have hsort := (sortB_sorted (fun b : Addr × Int × Str => .tuple [.int b.2.1, .str b.2.2]) bs).imp fun {x y} h => dataLe_is (fun b : Addr × Int × Str => b.2.1) (fun b => b.2.2) x y h
      generalize hl' : sortB (fun b : Addr × Int × Str => .tuple [.int b.2.1, .str b.2.2]) bs = l at *
      have hT2 : ∀ u ∈ A ++ C, u.1 < u.2 := fun u hu => by
        rcases List.mem_append.mp hu with h | h
        · exact cA.2 u h
        · exact cC.2 u h
      have hS : ∀ b' ∈ l, b'.2 = ((tb b'.2).1, txtF (sel A f g) (tb b'.2).1 (tb b'.2).2) ∧ tb b'.2 ∈ A ++ C := fun b' hb' => by
        have h1 : b'.2 ∈ bs.map (·.2) := List.mem_map.mpr ⟨b', hperm.mem_iff.mp hb', rfl⟩
        rw [eh] at h1
        obtain ⟨u, hu, e'⟩ := List.mem_map.mp h1
        rw [← e', tb_one (hT2 u hu)]
        exact ⟨rfl, hu⟩
      have hpm : (l.map fun b => tb b.2).Perm (A ++ C) := by
        have h1 := hperm.map fun b => tb b.2
        have h2 : bs.map (fun b => tb b.2) = A ++ C := by
          rw [show bs.map (fun b => tb b.2) = (bs.map (·.2)).map tb by rw [List.map_map]; rfl, eh]
          unfold partsF
          rw [List.map_map]
          exact (List.map_congr_left fun u hu => tb_one (hT2 u hu)).trans (List.map_id' _)
        rw [h2] at h1
        exact h1
      have hS1 : (l.map fun b => tb b.2).Pairwise fun u v => u.2 ≤ v.1 := apart hpm (apart2 cA cC fun x h1 h2 => ((vC x).mp h2).2 h1) hT2 (List.pairwise_map.mpr hsort)
      have hS2 : ∀ u ∈ l.map (fun b => tb b.2), u.1 < u.2 := fun u hu => hT2 u (hpm.mem_iff.mp hu)
      have hcS : ∀ x, cov (l.map fun b => tb b.2) x ↔ cov A x ∨ cov B x := fun x => by
        have h1 : cov (l.map fun b => tb b.2) x ↔ cov (A ++ C) x := ⟨fun ⟨u, hu, k⟩ => ⟨u, hpm.mem_iff.mp hu, k⟩, fun ⟨u, hu, k⟩ => ⟨u, hpm.mem_iff.mpr hu, k⟩⟩
        rw [h1, cov_app, vC]
        constructor
        · rintro (k | k)
          · exact .inl k
          · exact .inr k.1
        · rintro (k | k)
          · exact .inl k
          · by_cases z : cov A x
            · exact .inl z
            · exact .inr ⟨k, z⟩
      have hrS : ∀ u ∈ l.map (fun b => tb b.2), lo ≤ u.1 ∧ u.2 ≤ lo + 20000 := fun u hu => rng_of (U := l.map fun b => tb b.2) (fun x hx' => by
        rcases (hcS x).mp hx' with ⟨v, hv, k⟩ | ⟨v, hv, k⟩
        · have := rA.2 v hv
          omega
        · have := rB.2 v hv
          omega) hu (hS2 u hu)
      have hll : l.length = bs.length := hperm.length_eq
      have hb7 : ∀ b' ∈ l, H6 b'.1 = some (.tup [.int b'.2.1, .str b'.2.2]) := fun b' hb' => hb6 b' (hperm.mem_iff.mp hb')
      have s7 := same_upd (o := .lst (l.map fun b => V.ref b.1)) hp
      have npL : p ≠ L := fun z => by
        rw [z, eL6] at hp
        cases hp
      generalize hSS : (l.map fun b => tb b.2) = S at *
      have lS : S.length = l.length := by rw [← hSS, List.length_map]
      have facc : ∀ i, ((S.take i).foldl stepJ []).Pairwise (fun q u => u.2 < q.1) ∧ (∀ u ∈ (S.take i).foldl stepJ [], u.1 < u.2) ∧ ∀ x, cov ((S.take i).foldl stepJ []) x ↔ cov [] x ∨ cov (S.take i) x := fun i => foldJ_ok (S.take i) [] (hS1.sublist (List.take_sublist ..)) (fun u hu => hS2 u (List.mem_of_mem_take hu)) List.Pairwise.nil (fun _ h => nomatch h) (fun _ h => nomatch h)
      refine ⟨p, rfl, ⟨_, SqL.of upd_same⟩, for_list (K := K) (a := p) (xs := l.map fun b => V.ref b.1) (fun i σ H' => Same H H' ∧ (∀ b' ∈ l, H' b'.1 = some (.tup [.int b'.2.1, .str b'.2.2])) ∧ H' p = some (.lst (l.map fun b => V.ref b.1)) ∧ (∃ ys, H' L = some (.lst ys) ∧ Paired (PT2 H') ys (partsF (sel A f g) ((S.take i).foldl stepJ []).reverse) ∧ ys.length ≤ i) ∧ ∃ y4 y5, σ = [some (.ref a), some (.ref b), some (.ref r), some (.ref L), y4, y5])
        ⟨t6.trans s7, fun b' hb' => s7 _ _ (hb7 b' hb'), upd_same, ⟨[], s7 _ _ eL6, .nil, Nat.le_refl _⟩, none, none, rfl⟩ (fun i σ H' _ pv => SqL.of pv.2.2.1) ?_ ?_⟩
      · rintro i x σ H8 hi ⟨s8, hbl, ep, ⟨zs', eL, hy', ly⟩, y4, y5, rfl⟩
        rw [List.getElem?_map] at hi
        cases hk : l[i]? with
        | none =>
          rw [hk] at hi
          cases hi
        | some b' =>
          rw [hk] at hi
          cases hi
          have hil : i < l.length := (List.getElem?_eq_some_iff.mp hk).1
          have hbm := hbl b' (List.mem_of_getElem? hk)
          obtain ⟨eb', mb'⟩ := hS b' (List.mem_of_getElem? hk)
          have hSi : S[i]? = some (tb b'.2) := by
            rw [← hSS, List.getElem?_map, hk]
            rfl
          have hu1 := hS2 _ (List.mem_of_getElem? hSi)
          have hu2 := hrS _ (List.mem_of_getElem? hSi)
          generalize tb b'.2 = u at *
          have hn : (S.take (i + 1)).foldl stepJ [] = stepJ ((S.take i).foldl stepJ []) u := by
            rw [List.take_add_one, hSi, List.foldl_append]
            rfl
          rw [eb'] at hbm
          obtain ⟨f1, f2, f3⟩ := facc i
          refine ⟨b'.1, _, rfl, SqT.of hbm, rfl, _, _, rfl, _, _, rfl, rfl, ?_⟩
          cases hacc : (S.take i).foldl stepJ [] with
          | nil =>
            rw [hacc] at hy' hn
            cases hy'
            refine ⟨.ref L, rfl, false, .inl ⟨[], SqL.of eL, rfl⟩, ?_⟩
            refine ⟨.ref L, rfl, .inl ⟨rfl, _, SqL.of eL⟩, _, rfl, _, rfl, (by show 2 ≤ sizeLine; decide), fun p2 h2 => ?_⟩
            have sp2 := same_upd (o := .tup [.int u.1, .str (txtF (sel A f g) u.1 u.2)]) h2
            have eL2 := sp2 _ _ eL
            refine ⟨L, _, _, rfl, rfl, eL2, (by show 0 < sizeLine; decide), same_mut (s8.trans sp2) nL, fun b'' hb'' => tup_upd eL2 (fun _ z => by cases z) (sp2 _ _ (hbl b'' hb'')), by rw [upd_ne npL]; exact sp2 _ _ ep, ⟨_, upd_same, ?_, by show 1 ≤ _; omega⟩, _, _, rfl⟩
            rw [hn]
            exact .cons ⟨p2, rfl, tup_upd eL2 (fun _ z => by cases z) upd_same⟩ .nil
          | cons qq rr =>
            rw [hacc] at hy' hn f2 f3
            have hq1 := f2 qq (List.mem_cons_self ..)
            have hq2 := rng_of (U := qq :: rr) (lo := lo) (hi := lo + 20000) (fun x hx' => by
              rcases (f3 x).mp hx' with k | ⟨v, hv, k⟩
              · exact absurd k cov_nil
              · have := hrS v (List.mem_of_mem_take hv)
                omega) (List.mem_cons_self ..) hq1
            have hap : partsF (sel A f g) (qq :: rr).reverse = partsF (sel A f g) rr.reverse ++ [(qq.1, txtF (sel A f g) qq.1 qq.2)] := by
              unfold partsF
              rw [List.reverse_cons, List.map_append]
              rfl
            rw [hap] at hy'
            obtain ⟨ys', v, rfl, hy2, t, rfl, ht⟩ := paired_snoc hy'
            have i0 : atI [V.int qq.1, V.str (txtF (sel A f g) qq.1 qq.2)] 0 = some (.int qq.1) := rfl
            have i1 : atI [V.int qq.1, V.str (txtF (sel A f g) qq.1 qq.2)] 1 = some (.str (txtF (sel A f g) qq.1 qq.2)) := rfl
            have tl1 := txtF_len (sel A f g) qq.1 qq.2
            have tl2 := txtF_len (sel A f g) u.1 u.2
            refine ⟨.ref L, rfl, true, .inl ⟨_, SqL.of eL, by cases ys' <;> rfl⟩, ?_⟩
            refine ⟨.ref L, rfl, 1, rfl, L, _, -1, _, rfl, rfl, SqL.of eL, atI_last _ _, t, _, 0, _, rfl, rfl, SqT.of ht, i0, .ref L, rfl, 1, rfl, L, _, -1, _, rfl, rfl, SqL.of eL, atI_last _ _, t, _, 1, _, rfl, rfl, SqT.of ht, i1, _, rfl, szl (by omega), _, _, rfl, rfl, _, rfl, rfl, _, rfl, ite2 (fun e => ?_) (fun e => ?_)⟩
            · have e' : qq.1 + ((txtF (sel A f g) qq.1 qq.2).length : Int) = u.1 := V.int.inj (of_decide_eq_true e)
              have e2 : qq.2 = u.1 := by omega
              rw [stepJ_cons, if_pos e2] at hn
              refine ⟨.ref L, rfl, 1, rfl, L, _, -1, _, rfl, rfl, SqL.of eL, atI_last _ _, t, _, 0, _, rfl, rfl, SqT.of ht, i0, .ref L, rfl, 1, rfl, L, _, -1, _, rfl, rfl, SqL.of eL, atI_last _ _, t, _, 1, _, rfl, rfl, SqT.of ht, i1, _, rfl, _, _, rfl, rfl, szl (by dsimp only; omega), (by show 2 ≤ sizeLine; decide), fun p2 h2 => ?_⟩
              have eapp : txtF (sel A f g) qq.1 qq.2 ++ txtF (sel A f g) u.1 u.2 = txtF (sel A f g) qq.1 u.2 := by
                rw [e2]
                exact txtF_app (by omega) (by omega)
              rw [eapp]
              have sp2 := same_upd (o := .tup [.int qq.1, .str (txtF (sel A f g) qq.1 u.2)]) h2
              have eL2 := sp2 _ _ eL
              refine ⟨.ref L, rfl, 1, rfl, L, _, -1, ys'.length, rfl, rfl, eL2, by rw [List.length_append]; exact ixN_last _, same_mut (s8.trans sp2) nL, fun b'' hb'' => tup_upd eL2 (fun _ z => by cases z) (sp2 _ _ (hbl b'' hb'')), by rw [upd_ne npL]; exact sp2 _ _ ep, ⟨_, upd_same, ?_, by rw [List.length_set]; omega⟩, _, _, rfl⟩
              rw [hn, set_last]
              have hap2 : partsF (sel A f g) ((qq.1, u.2) :: rr).reverse = partsF (sel A f g) rr.reverse ++ [(qq.1, txtF (sel A f g) qq.1 u.2)] := by
                unfold partsF
                rw [List.reverse_cons, List.map_append]
                rfl
              rw [hap2]
              exact pt2s_upd eL2 (fun _ z => by cases z) (paired_app (pt2s_mono sp2 hy2) (.cons ⟨p2, rfl, upd_same⟩ .nil))
            · have e2 : ¬ qq.2 = u.1 := fun z => e (decide_eq_true (congrArg V.int (show qq.1 + ((txtF (sel A f g) qq.1 qq.2).length : Int) = u.1 by omega)))
              rw [stepJ_cons, if_neg e2] at hn
              refine ⟨.ref L, rfl, .inl ⟨rfl, _, SqL.of eL⟩, _, rfl, _, rfl, (by show 2 ≤ sizeLine; decide), fun p2 h2 => ?_⟩
              have sp2 := same_upd (o := .tup [.int u.1, .str (txtF (sel A f g) u.1 u.2)]) h2
              have eL2 := sp2 _ _ eL
              refine ⟨L, _, _, rfl, rfl, eL2, szlt (by omega), same_mut (s8.trans sp2) nL, fun b'' hb'' => tup_upd eL2 (fun _ z => by cases z) (sp2 _ _ (hbl b'' hb'')), by rw [upd_ne npL]; exact sp2 _ _ ep, ⟨_, upd_same, ?_, by rw [List.length_append]; show _ + 1 ≤ _; omega⟩, _, _, rfl⟩
              have hap2 : partsF (sel A f g) (u :: qq :: rr).reverse = partsF (sel A f g) (qq :: rr).reverse ++ [(u.1, txtF (sel A f g) u.1 u.2)] := by
                unfold partsF
                rw [List.reverse_cons, List.map_append]
                rfl
              rw [hn, hap2, hap]
              exact pt2s_upd eL2 (fun _ z => by cases z) (paired_app (pt2s_mono sp2 hy') (.cons ⟨p2, rfl, upd_same⟩ .nil))
      · rintro σ H8 ⟨s8, hbl, ep, ⟨zs', eL, hy', ly⟩, y4, y5, rfl⟩
        rw [List.length_map, List.take_of_length_le (by omega)] at hy'
        obtain ⟨cU, vU⟩ := jn_ok hS1 hS2
        exact ⟨.ref L, rfl, q L zs' (jn S) H8 nL s8 eL cU (fun x => (vU x).trans (hcS x)) hy'⟩

end
end My
namespace My
open PySem PySem.Spec PyProof.Rows L2 TL
/-! ### what parts are as data -/
def ptd (p : Prt) : PyData := .tuple [.int p.1, .str p.2]
theorem dp_pts {K : PySem.W.Frag} {H : Hp} : ∀ {xs : List V} {ps : List Prt}, Paired (PT2 H) xs ps → DpAll K H xs (ps.map ptd)
  | _, _, .nil => .nil
  | _, _, .cons h t => by
    obtain ⟨a, rfl, h⟩ := h
    exact .cons (.tup (SqT.of h) (.cons (.int _) (.cons (.str _) .nil))) (dp_pts t)
theorem lay_pts : ∀ ps : List Prt, (∀ p ∈ ps, Asc p.2) → PyData.canLayAll0 (ps.map ptd) = true
  | [], _ => rfl
  | p :: t, h => by simp [PyData.canLayAll0, PyData.canLay0, ptd, ok_asc (h p (List.mem_cons_self ..)), lay_pts t fun y hy => h y (List.mem_cons_of_mem _ hy)]
theorem depth_pts : ∀ ps : List Prt, PyData.depthAll (ps.map ptd) ≤ 1
  | [] => Nat.zero_le _
  | r :: t => by
    have := depth_pts t
    simp only [List.map_cons, PyData.depthAll, ptd, PyData.depth]
    show max _ _ ≤ 1
    have e : max 0 (max 0 0) + 1 = 1 := rfl
    omega
theorem shaped_pts {ps : List Prt} (h : ∀ p ∈ ps, Asc p.2) : SeqAt.shaped (.list (ps.map ptd)) = true := by
  have := depth_pts ps
  simp only [SeqAt.shaped, PyData.canLay0, PyData.depth, lay_pts ps h, Bool.true_and]
  exact decide_eq_true (by omega)
theorem asc_txtF {f : Int → Nat} (h : ∀ x, f x < 128) (a b : Int) : Asc (txtF f a b) := by
  unfold txtF
  refine asc_mk fun c hc => ?_
  obtain ⟨i, _, rfl⟩ := List.mem_map.mp hc
  exact h _
theorem asc_partsF {f : Int → Nat} (h : ∀ x, f x < 128) (S : List (Int × Int)) : ∀ p ∈ partsF f S, Asc p.2 := fun p hp => by
  obtain ⟨u, _, rfl⟩ := List.mem_map.mp hp
  exact asc_txtF h _ _
/-- two that are alike as data don't differ -/
theorem ne_same {K : PySem.W.Frag} {H : Hp} {x y : V} {d : PyData} {Q : VK} (hx : Dp K H x d) (hy : Dp K H y d) (sh : SeqAt.shaped d = true) (q : Q (.bl false) H) : rNeD K x y H Q := by
  refine ⟨d, d, hx, hy, sh, sh, ?_⟩
  rw [SeqAt.eqv_refl _ (SeqAt.canLay_of_shaped sh)]
  exact q
theorem ne_pts {K : PySem.W.Frag} {H : Hp} {p q : Addr} {xs ys : List V} {ps : List Prt} {Q : VK} (hp : H p = some (.lst xs)) (hx : Paired (PT2 H) xs ps) (hq : H q = some (.lst ys)) (hy : Paired (PT2 H) ys ps) (ha : ∀ p ∈ ps, Asc p.2) (k : Q (.bl false) H) : rNeD K (.ref p) (.ref q) H Q :=
  ne_same (.lst (SqL.of hp) (dp_pts hx)) (.lst (SqL.of hq) (dp_pts hy)) (shaped_pts ha) k
theorem ne_sps {K : PySem.W.Frag} {H : Hp} {p q : Addr} {xs ys : List V} {ps : List Spn} {Q : VK} (hp : H p = some (.lst xs)) (hx : Paired (PS2 H) xs ps) (hq : H q = some (.lst ys)) (hy : Paired (PS2 H) ys ps) (k : Q (.bl false) H) : rNeD K (.ref p) (.ref q) H Q :=
  ne_same (.lst (SqL.of hp) (dp_sps hx)) (.lst (SqL.of hq) (dp_sps hy)) (shaped_sps _) k
/-! ### the sign of each place of a text -/
def sgn (z : Str) (x : Int) : Nat := (z.cps.toList[x.toNat]?).getD 0
theorem sgn_asc {z : Str} (h : Asc z) (x : Int) : sgn z x < 128 := by
  unfold sgn
  cases e : z.cps.toList[x.toNat]? with
  | none => show (0 : Nat) < 128; decide
  | some c => exact h c (List.mem_of_getElem? e)
theorem txt_sgn (z : Str) : txtF (sgn z) 0 (z.length : Int) = z := by
  refine PyProof.Rows.ext_toList ?_
  unfold txtF
  show (List.range ((z.length : Int) - 0).toNat).map (fun i => sgn z (0 + (i : Nat))) = z.cps.toList
  have hl := len_tl z
  apply List.ext_getElem
  · rw [List.length_map, List.length_range]
    omega
  · intro i h1 h2
    rw [List.getElem_map, List.getElem_range]
    unfold sgn
    rw [show ((0 : Int) + (i : Nat)).toNat = i by omega, List.getElem?_eq_getElem h2]
    rfl
theorem cut_sgn {z : Str} {s t : Int} (h1 : 0 ≤ s) (h2 : s ≤ t) (h3 : t ≤ (z.length : Int)) : cutS z (some s) (some t) = txtF (sgn z) s t := by
  have h := txtF_cut (f := sgn z) (a := 0) (b := (z.length : Int)) h1 h2 h3
  rw [txt_sgn, Int.sub_zero, Int.sub_zero] at h
  exact h
/-! ### sums -/
def lenS (S : List (Int × Int)) : Int := (S.map fun u => u.2 - u.1).sum
theorem wgt_partsF {f : Int → Nat} {S : List (Int × Int)} (h : ∀ u ∈ S, u.1 < u.2) : wgt (partsF f S) = lenS S := by
  unfold wgt partsF lenS
  rw [List.map_map]
  congr 1
  refine List.map_congr_left fun u hu => ?_
  show ((txtF f u.1 u.2).length : Int) = u.2 - u.1
  rw [txtF_len]
  have := h u hu
  omega
theorem unt_sum (size : Int) : ∀ (A : List (Int × Int)) (a : Int), can A → (∀ u ∈ A, a ≤ u.1 ∧ u.2 ≤ size) → a ≤ size → lenS (unt a size A) + lenS A = size - a
  | [], a, _, _, h => by
    unfold unt lenS
    split
    · show (size - a + 0) + 0 = _
      omega
    · show (0 : Int) + 0 = _
      omega
  | u :: r, a, hA, ha, h => by
    obtain ⟨u1, u2, u3⟩ := can_cons hA
    have hu := ha u (List.mem_cons_self ..)
    have ih := unt_sum size r u.2 u2 (fun v hv => ⟨by have := u3 v hv; omega, (ha v (List.mem_cons_of_mem _ hv)).2⟩) hu.2
    unfold lenS at ih ⊢
    show (((if a < u.1 then [(a, u.1)] else []) ++ unt u.2 size r).map fun u => u.2 - u.1).sum + ((u.2 - u.1) + (r.map fun u => u.2 - u.1).sum) = size - a
    by_cases c : a < u.1
    · rw [if_pos c]
      show ((u.1 - a) + ((unt u.2 size r).map fun u => u.2 - u.1).sum) + _ = _
      omega
    · rw [if_neg c, List.nil_append]
      omega
theorem unt_top (size : Int) : ∀ (A : List (Int × Int)) (a : Int), (∀ u ∈ A, u.1 ≤ size) → ∀ v ∈ unt a size A, v.2 ≤ size
  | [], a, _, v, hv => by
    unfold unt at hv
    split at hv
    · rw [List.mem_singleton.mp hv]
      exact Int.le_refl _
    · cases hv
  | u :: r, a, h, v, hv => by
    have hv' : v ∈ (if a < u.1 then [(a, u.1)] else []) ++ unt u.2 size r := hv
    rcases List.mem_append.mp hv' with k | k
    · split at k
      · rw [List.mem_singleton.mp k]
        exact h u (List.mem_cons_self ..)
      · cases k
    · exact unt_top size r u.2 (fun w hw => h w (List.mem_cons_of_mem _ hw)) v k

/-! ### lists of stretches and of parts, and the defs by them -/
def LS (H : Hp) (a : Addr) (S : List (Int × Int)) : Prop := ∃ xs, H a = some (.lst xs) ∧ Paired (PS2 H) xs (S.map iv)
def LP (H : Hp) (a : Addr) (ps : List Prt) : Prop := ∃ xs, H a = some (.lst xs) ∧ Paired (PT2 H) xs ps
def IQ (H : Hp) (a : Addr) (S : List (Int × Int)) : Prop := ∃ xs, IsS H a xs ∧ Paired (PS2 H) xs (S.map iv)
def IP (H : Hp) (a : Addr) (ps : List Prt) : Prop := ∃ xs, IsS H a xs ∧ Paired (PT2 H) xs ps
theorem LS.mono {H H' : Hp} {a : Addr} {S : List (Int × Int)} (s : Same H H') : LS H a S → LS H' a S := fun ⟨xs, h, hx⟩ => ⟨xs, s _ _ h, ps2s_mono s hx⟩
theorem LP.mono {H H' : Hp} {a : Addr} {ps : List Prt} (s : Same H H') : LP H a ps → LP H' a ps := fun ⟨xs, h, hx⟩ => ⟨xs, s _ _ h, pt2s_mono s hx⟩
theorem IQ.mono {H H' : Hp} {a : Addr} {S : List (Int × Int)} (s : Same H H') : IQ H a S → IQ H' a S := fun ⟨xs, h, hx⟩ => ⟨xs, h.mono s, ps2s_mono s hx⟩
theorem IP.mono {H H' : Hp} {a : Addr} {ps : List Prt} (s : Same H H') : IP H a ps → IP H' a ps := fun ⟨xs, h, hx⟩ => ⟨xs, h.mono s, pt2s_mono s hx⟩
theorem LS.iq {H : Hp} {a : Addr} {S : List (Int × Int)} : LS H a S → IQ H a S := fun ⟨xs, h, hx⟩ => ⟨xs, .inl h, hx⟩
theorem LP.ip {H : Hp} {a : Addr} {ps : List Prt} : LP H a ps → IP H a ps := fun ⟨xs, h, hx⟩ => ⟨xs, .inl h, hx⟩
theorem LS.nil {H : Hp} {a : Addr} (h : H a = some (.lst [])) : LS H a [] := ⟨[], h, .nil⟩
theorem LP.nil {H : Hp} {a : Addr} (h : H a = some (.lst [])) : LP H a [] := ⟨[], h, .nil⟩
theorem ne_lp {K : PySem.W.Frag} {H : Hp} {p q : Addr} {ps : List Prt} {Q : VK} (hp : LP H p ps) (hq : LP H q ps) (ha : ∀ p ∈ ps, Asc p.2) (k : Q (.bl false) H) : rNeD K (.ref p) (.ref q) H Q := by
  obtain ⟨xs, h1, h2⟩ := hp
  obtain ⟨ys, h3, h4⟩ := hq
  exact ne_pts h1 h2 h3 h4 ha k
theorem ne_ls {K : PySem.W.Frag} {H : Hp} {p q : Addr} {S : List (Int × Int)} {Q : VK} (hp : LS H p S) (hq : LS H q S) (k : Q (.bl false) H) : rNeD K (.ref p) (.ref q) H Q := by
  obtain ⟨xs, h1, h2⟩ := hp
  obtain ⟨ys, h3, h4⟩ := hq
  exact ne_sps h1 h2 h3 h4 k
/-- a row of stretches within a text of at most 20000 signs -/
structure Row (lo : Int) (S : List (Int × Int)) : Prop where
  can : can S
  inR : inR lo S
  len : S.length ≤ 600
theorem sel_self (A : List (Int × Int)) (f : Int → Nat) : sel A f f = f := by
  funext x
  unfold sel
  split <;> rfl
@[irreducible] def spCutI : Sp := spCut
@[irreducible] def spLackI : Sp := spLack
@[irreducible] def spJoinedI : Sp := spJoined
@[irreducible] def spWeightI : Sp := spWeight
theorem cut_of {vs : List V} {H : Hp} {Q : VK} {X} {a b : Addr} {f : Int → Nat} {A B C : List (Int × Int)} {lo : Int} (hv : vs = [.ref a, .ref b]) (ha : IP H a (partsF f A)) (hb : IQ H b B) (rA : Row lo A) (cB : can B) (lB : B.length ≤ 600) (hC : (meet A B).map (·.2) = C)
    (k : ∀ p H', H p = none → Same H H' → LP H' p (partsF f C) → Q (.ref p) H') : spCutI vs H Q X := by
  unfold spCutI
  obtain ⟨xs, h1, h2⟩ := ha
  obtain ⟨ys, h3, h4⟩ := hb
  have := rA.len
  exact ⟨a, b, xs, ys, f, A, B, hv, h1, h2, h3, h4, rA.can, cB, by omega, by omega, rA.inR.wide, fun p zs H' np s h5 h6 => k p H' np s ⟨zs, h5, hC ▸ h6⟩⟩
theorem lack_of {vs : List V} {H : Hp} {Q : VK} {X} {a b : Addr} {f : Int → Nat} {A W C : List (Int × Int)} {lo : Int} (hv : vs = [.ref a, .ref b]) (ha : IQ H a W) (hb : IP H b (partsF f A)) (rA : Row lo A) (lW : W.length ≤ 600) (hC : lak W A = C)
    (k : ∀ p H', H p = none → Same H H' → LS H' p C → Q (.ref p) H') : spLackI vs H Q X := by
  unfold spLackI
  obtain ⟨xs, h1, h2⟩ := ha
  obtain ⟨ys, h3, h4⟩ := hb
  have := rA.len
  refine ⟨a, b, xs, ys, W, partsF f A, hv, h1, h2, h3, h4, okP_partsF (by omega) rA.inR.wide, by omega, fun p zs H' np s h5 h6 => k p H' np s ⟨zs, h5, ?_⟩⟩
  rw [tb_partsF rA.can, hC] at h6
  exact h6
theorem join_of {vs : List V} {H : Hp} {Q : VK} {X} {a b : Addr} {f : Int → Nat} {A B C : List (Int × Int)} {lo : Int} (hv : vs = [.ref a, .ref b]) (ha : IP H a (partsF f A)) (hb : IP H b (partsF f B)) (rA : Row lo A) (rB : Row lo B) (cC : can C) (hC : ∀ x, cov C x ↔ cov A x ∨ cov B x)
    (k : ∀ p H', H p = none → Same H H' → LP H' p (partsF f C) → Q (.ref p) H') : spJoinedI vs H Q X := by
  unfold spJoinedI
  obtain ⟨xs, h1, h2⟩ := ha
  obtain ⟨ys, h3, h4⟩ := hb
  refine ⟨a, b, xs, ys, f, f, A, B, lo, hv, h1, h2, h3, h4, rA.can, rB.can, rA.len, rB.len, rA.inR, rB.inR, fun p zs U H' np s h5 cU vU h6 => k p H' np s ⟨zs, h5, ?_⟩⟩
  rw [sel_self, can_eq U C cU cC fun x => (vU x).trans (hC x).symm] at h6
  exact h6
theorem weight_of {vs : List V} {H : Hp} {Q : VK} {X} {a : Addr} {f : Int → Nat} {A : List (Int × Int)} {lo : Int} (hv : vs = [.ref a]) (ha : IP H a (partsF f A)) (rA : Row lo A) (k : ∀ H', Same H H' → Q (.int (lenS A)) H') : spWeightI vs H Q X := by
  unfold spWeightI
  obtain ⟨xs, h1, h2⟩ := ha
  have := rA.len
  refine ⟨a, xs, partsF f A, hv, h1, h2, okP_partsF (by omega) rA.inR.wide, fun H' s => ?_⟩
  rw [wgt_partsF rA.can.2]
  exact k H' s
theorem rep_one (b : Bool) (v : V) : (List.replicate (if b = true then (1 : Int) else 0).toNat [v]).flatten = if b = true then [v] else [] := by
  cases b <;> rfl

section
variable {P : Program} {w : World} {K : PySem.W.Frag} {mg : Str → Option Value} {base : Heap}
theorem ok_law_well (T : Txt K mg) : FnOk P w K mg base CX0 1 T.f_law_well T.fd_law_well ["_law_cell"] spWell := by
  refine T.d_law_well.F.ok sc_law_well (fun vs H Q E h => ?_) (fun cdv A outer s H vs Q E hr h => ?_)
  · obtain ⟨n, rfl, _⟩ := h
    rfl
  · obtain ⟨n, rfl, q⟩ := h
    refine ⟨_, (pss_one (ps_ret (pe_lst (pa_cons (pe_op op_mul (pv 0) (pe_callTy call_int1 (by rfl) T.m_int (by decide +kernel) (pa_cons (pe_cmpR op_ge (pv 0) (pe_op op_pow pe_int pe_int) (nomark _)) pa_nil))) (pa_cons (pe_op op_mod (pv 0) pe_int) (pa_cons pe_int pa_nil)))))), ?_⟩
    refine ⟨.int n, rfl, .int n, rfl, 10, 18, rfl, rfl, ⟨by decide, by decide, by decide⟩, n, _, rfl, rfl, .inr ⟨_, rfl, n, _, rfl, rfl, ?_, .int n, rfl, n, _, rfl, rfl, (show (0 : Int) < 2147483647 by decide), ?_⟩⟩
    · refine .inr ?_
      split <;> decide
    · exact ⟨(by show 3 ≤ sizeLine; decide), fun p hp => q p _ _ _ hp⟩
theorem ok_law_draw (T : Txt K mg) : FnOk P w K mg base CX0 1 T.f_law_draw T.fd_law_draw ["_law_well_here", "_law_many"] spDraw := by
  refine T.d_law_draw.F.ok sc_law_draw (fun vs H Q E h => ?_) (fun cdv A outer s H vs Q E hr h => ?_)
  · obtain ⟨W, m, rfl, _⟩ := h
    rfl
  · obtain ⟨W, m, rfl, m0, m1, hI, q⟩ := h
    obtain ⟨a, b, c, hW⟩ := id hI
    have i0 : atI [V.int a, .int b, .int c] 0 = some (.int a) := rfl
    have i1 : atI [V.int a, .int b, .int c] 1 = some (.int b) := rfl
    have i2 : atI [V.int a, .int b, .int c] 2 = some (.int c) := rfl
    refine ⟨_, (pss_cons (ps_if (pt_cmpR op_gt (pe_ix ix_list (pv 0) pe_int (fun _ _ => rfl)) pe_int (nomark _))
      (pss_cons (ps_set (i := 2) sc_law_draw.nd rfl (.inl rfl) (pe_op op_mod (pe_ix ix_list (pv 0) pe_int (fun _ _ => rfl)) (pv 1)))
      (pss_cons (ps_asg (pe_op op_fdiv (pe_ix ix_list (pv 0) pe_int (fun _ _ => rfl)) (pv 1)) (pg_sub (pv 0) pe_int set_list))
      (pss_one (ps_ret (pv 2)))))
      pss_nil)
      (pss_cons (ps_asg (pe_op op_add (pe_ix ix_list (pv 0) pe_int (fun _ _ => rfl)) pe_int) (pg_sub (pv 0) pe_int set_list))
      (pss_cons (ps_set (i := 3) sc_law_draw.nd rfl (.inl rfl) (pe_op op_mod (pe_op op_mul (pe_op op_add (pe_op op_add (pe_ix ix_list (pv 0) pe_int (fun _ _ => rfl)) (pe_op op_mul pe_int (pe_ix ix_list (pv 0) pe_int (fun _ _ => rfl)))) pe_int) pe_int) pe_int))
      (pss_cons (ps_set (i := 3) sc_law_draw.nd rfl (.inl rfl) (pe_op op_mod (pe_op op_mul (pv 3) (pe_op op_add (pe_op op_fdiv (pv 3) pe_int) pe_int)) pe_int))
      (pss_one (ps_ret (pe_op op_mod (pe_op op_mod (pe_op op_mul (pv 3) (pe_op op_add (pe_op op_fdiv (pv 3) pe_int) pe_int)) pe_int) (pv 1)))))))), ?_⟩
    refine ⟨.ref W, rfl, W, _, 0, _, rfl, rfl, SqL.of hW, i0, a, 0, rfl, rfl, _, rfl, ite2 (fun e => ?_) (fun e => ?_)⟩
    · refine ⟨.ref W, rfl, W, _, 0, _, rfl, rfl, SqL.of hW, i0, .int m, rfl, a, m, rfl, rfl, m0, ?_⟩
      refine ⟨.ref W, rfl, W, _, 0, _, rfl, rfl, SqL.of hW, i0, .int m, rfl, a, m, rfl, rfl, ⟨m0, m1⟩, .ref W, rfl, W, _, 0, 0, rfl, rfl, hW, rfl, ?_⟩
      exact ⟨_, rfl, q _ _ (mod_lt m0).1 (mod_lt m0).2 ((Wx.refl hI).set _ _ _)⟩
    · refine ⟨.ref W, rfl, W, _, 2, _, rfl, rfl, SqL.of hW, i2, c, 1, rfl, rfl, .ref W, rfl, W, _, 2, 2, rfl, rfl, hW, rfl, ?_⟩
      have hW' : (upd H W (W3 a b (c + 1))) W = some (W3 a b (c + 1)) := upd_same
      have j1 : atI [V.int a, .int b, .int (c + 1)] 1 = some (.int b) := rfl
      have j2 : atI [V.int a, .int b, .int (c + 1)] 2 = some (.int (c + 1)) := rfl
      refine ⟨.ref W, rfl, W, _, 1, _, rfl, rfl, SqL.of hW', j1, .ref W, rfl, W, _, 2, _, rfl, rfl, SqL.of hW', j2, 7919, _, rfl, rfl, .inl (by decide), b, _, rfl, rfl, _, 1, rfl, rfl, _, 48271, rfl, rfl, .inr (by decide), _, 2147483647, rfl, rfl, (show (0 : Int) < 2147483647 by decide), ?_⟩
      refine ⟨_, rfl, _, rfl, _, 1009, rfl, rfl, ⟨by decide, by decide⟩, _, 69621, rfl, rfl, _, _, rfl, rfl, cmul_of (mod_lt (by decide)), _, 2147483647, rfl, rfl, (show (0 : Int) < 2147483647 by decide), ?_⟩
      refine ⟨_, rfl, _, rfl, _, 2003, rfl, rfl, ⟨by decide, by decide⟩, _, 40692, rfl, rfl, _, _, rfl, rfl, cmul_of (mod_lt (by decide)), _, 2147483399, rfl, rfl, (show (0 : Int) < 2147483399 by decide), .int m, rfl, _, m, rfl, rfl, m0, ?_⟩
      exact q _ _ (mod_lt m0).1 (mod_lt m0).2 ((Wx.refl hI).set _ _ _)

def spGreat : Sp := fun vs H Q _ => ∃ (W : Addr), vs = [.ref W] ∧ IsW H W ∧ ∀ n H', 0 ≤ n → n < 10 ^ 56 → Wx W H H' → Q (.int n) H'
theorem ok_law_great (T : Txt K mg) : FnOk P w K mg base CX0 2 T.f_law_great T.fd_law_great ["_law_well_here"] spGreat := by
  refine T.d_law_great.F.ok sc_law_great (fun vs H Q E h => ?_) (fun cdv A outer s H vs Q E hr h => ?_)
  · obtain ⟨W, rfl, _⟩ := h
    rfl
  · obtain ⟨W, rfl, hI, q⟩ := h
    refine ⟨_, (pss_cons (ps_set (i := 1) sc_law_great.nd rfl (.inl rfl) pe_int)
      (pss_cons (ps_for PassesOwn.never rfl (pi_range1 (by rfl) T.m_range (pa_cons pe_int pa_nil)) (pg_name (i := 2) sc_law_great.nd rfl (.inl rfl))
      (pss_one (ps_set (i := 1) sc_law_great.nd rfl (.inl rfl) (pe_op op_add (pe_op op_mul (pv 1) (pe_op op_pow pe_int pe_int)) (pe_call (ok_law_draw T) (hr.mono (by decide)) (by rfl) T.d_law_draw.g T.d_law_draw.F.kp T.d_law_draw.b .nil pass0 (pa_cons (pv 0) (pa_cons (pe_op op_pow pe_int pe_int) pa_nil)))))))
      (pss_one (ps_ret (pv 1))))), ?_⟩
    refine ⟨7, rfl, by decide, by decide, for_range (lo := 0) (n := 7) (fun i σ H' => ∃ n : Int, 0 ≤ n ∧ n < 10 ^ (8 * i) ∧ Wx W H H' ∧ ∃ y, σ = [some (.ref W), some (.int n), y]) ⟨0, by decide, by decide, Wx.refl hI, none, rfl⟩ ?_ ?_⟩
    · rintro i σ H1 hi ⟨n, n0, n1, x1, y, rfl⟩
      refine ⟨.int n, rfl, 10, 8, rfl, rfl, ⟨by decide, by decide, by decide⟩, n, _, rfl, rfl, .inr ⟨by decide, by decide⟩, .ref W, rfl, 10, 8, rfl, rfl, ⟨by decide, by decide, by decide⟩, W, _, rfl, by decide, by decide, x1.well, fun r H2 r0 r1 x2 => ⟨_, r, rfl, rfl, _, ?_, ?_, x1.trans x2, _, rfl⟩⟩
      · have : 0 ≤ n * 10 ^ (8 : Int).toNat := Int.mul_nonneg n0 (by decide)
        omega
      · have e : (10 : Int) ^ (8 * (i + 1)) = 10 ^ (8 * i) * 100000000 := by rw [Nat.mul_add, Int.pow_add]; rfl
        have e2 : (10 : Int) ^ (8 : Int).toNat = 100000000 := by decide
        rw [e, e2]
        rw [e2] at r1
        omega
    · rintro σ H1 ⟨n, n0, n1, x1, y, rfl⟩
      exact ⟨_, rfl, q n H1 n0 (by simpa using n1) x1⟩

/-! ### truths and signs, place by place -/
def spTruths : Sp := fun vs H Q _ => ∃ (W : Addr) (n : Int), vs = [.ref W, .int n] ∧ 0 ≤ n ∧ n ≤ 200 ∧ IsW H W ∧ ∀ p (bs : List Bool) H', H p = none → Wx W H H' → H' p = some (.lst (bs.map V.bl)) → (bs.length : Int) = n → Q (.ref p) H'
theorem ok_law_truths (T : Txt K mg) : FnOk P w K mg base CX0 2 T.f_law_truths T.fd_law_truths ["_law_well_here", "_law_many"] spTruths := by
  refine T.d_law_truths.F.ok sc_law_truths (fun vs H Q E h => ?_) (fun cdv A outer s H vs Q E hr h => ?_)
  · obtain ⟨W, n, rfl, _⟩ := h
    rfl
  · obtain ⟨W, n, rfl, n0, n1, hI, q⟩ := h
    refine ⟨_, (pss_cons (ps_set (i := 2) sc_law_truths.nd rfl (.inl rfl) (pe_call (ok_law_draw T) (hr.mono (by decide)) (by rfl) T.d_law_draw.g T.d_law_draw.F.kp T.d_law_draw.b .nil pass0 (pa_cons (pv 0) (pa_cons pe_int pa_nil))))
      (pss_cons (ps_if (pt_cmpR op_eq (pv 2) pe_int (nomark _))
      (pss_one (ps_ret (pe_op op_rep (pe_lst (pa_cons (pe_cmpR op_eq (pe_call (ok_law_draw T) (hr.mono (by decide)) (by rfl) T.d_law_draw.g T.d_law_draw.F.kp T.d_law_draw.b .nil pass0 (pa_cons (pv 0) (pa_cons pe_int pa_nil))) pe_int (nomark _)) pa_nil)) (pv 1))))
      pss_nil)
      (pss_cons (ps_if (pt_cmpR op_lt (pv 2) pe_int (nomark _))
      (pss_one (ps_ret (pe_lc (own := [("_law_k", 5)]) (g := gName 5) (tt := tYes) (by rfl) sc_law_truths.nd (pi_range1 (by rfl) T.m_range (pa_cons (pv 1) pa_nil)) (blkOk_by (own := [("_law_k", 5)]) (N := ["_law_well_here", "_law_many", "_law_lot", "_law_found", "_law_told", "_law_k"]) (sc := defScope s_law_truths) (by decide +kernel)) (fun _ _ _ _ _ => (pg_name (i := 5) sc_law_truths.nd rfl (Or.inl rfl))) (fun _ _ _ _ _ => pts_nil) (fun _ _ _ _ _ => (pe_cmpR op_eq (pe_call (ok_law_draw T) (hr.mono (by decide)) (by rfl) T.d_law_draw.g T.d_law_draw.F.kp T.d_law_draw.b .nil pass0 (pa_cons (pv 0) (pa_cons pe_int pa_nil))) pe_int (nomark _))))))
      pss_nil)
      (pss_cons (ps_set (i := 3) sc_law_truths.nd rfl (.inl rfl) (pe_lst pa_nil))
      (pss_cons (ps_set (i := 4) sc_law_truths.nd rfl (.inl rfl) (pe_cmpR op_eq (pv 2) pe_int (nomark _)))
      (pss_cons (ps_for PassesOwn.never rfl (pi_range1 (by rfl) T.m_range (pa_cons (pv 1) pa_nil)) (pg_name (i := 5) sc_law_truths.nd rfl (.inl rfl))
      (pss_cons (ps_if (pt_cmpR op_eq (pe_call (ok_law_draw T) (hr.mono (by decide)) (by rfl) T.d_law_draw.g T.d_law_draw.F.kp T.d_law_draw.b .nil pass0 (pa_cons (pv 0) (pa_cons (pe_ix ix_list (pe_lst (pa_cons pe_int (pa_cons pe_int pa_nil))) (pe_op op_mod (pv 2) pe_int) (fun _ _ => rfl)) pa_nil))) pe_int (nomark _))
      (pss_one (ps_set (i := 4) sc_law_truths.nd rfl (.inl rfl) (pe_not (pv 4))))
      pss_nil)
      (pss_one (ps_expr (pe_bm PySem.F.plainAttrs_list PySem.F.slot_list_append PySem.F.type_list_append mt_append (pv 3) (pa_cons (pv 4) pa_nil))))))
      (pss_one (ps_ret (pv 3))))))))), ?_⟩
    refine ⟨.ref W, rfl, W, 6, rfl, by decide, by decide, hI, fun lot H1 l0 l1 x1 => ⟨_, rfl, rfl, _, rfl, ite2 (fun e => ?_) (fun e => ?_)⟩⟩
    · refine ⟨.ref W, rfl, W, 2, rfl, by decide, by decide, x1.well, fun r H2 _ _ x2 => ⟨rfl, (by show 1 ≤ sizeLine; decide), fun l hl => ⟨.int n, rfl, l, n, _, rfl, rfl, upd_same, by omega, by omega, ?_, fun p hp => ?_⟩⟩⟩
      · show 1 * n.toNat ≤ sizeLine
        exact szl (by omega)
      · have x3 := ((x1.trans x2).new (o := .lst [.bl (decide (V.int r = V.int 0))]) hl)
        refine q p (List.replicate n.toNat (decide (V.int r = V.int 0))) _ (x3.free hp) (x3.new hp) ?_ (by rw [List.length_replicate]; omega)
        rw [upd_same, List.map_replicate, List.flatten_replicate_singleton]
    · refine ⟨_, rfl, _, _, rfl, rfl, _, rfl, ite2 (fun e2 => ?_) (fun e2 => ?_)⟩
      · refine ⟨.int n, rfl, _, rfl, by omega, by omega, fun D hD => ?_⟩
        have nD : W ≠ D := x1.well.ne hD
        have hD0 : H D = none := x1.free hD
        refine lc_range (lo := 0) (n := n.toNat) (fun i H' => ∃ bs : List Bool, bs.length = i ∧ Wx W H H' ∧ H' D = some (.lst (bs.map V.bl))) ⟨[], rfl, x1.new hD, upd_same⟩ ?_ ?_
        · rintro i H' hi ⟨bs, bn, x, hD'⟩
          refine ⟨rfl, .ref W, rfl, W, 2, rfl, by decide, by decide, x.well, fun r H5 r0 r1 x5 => ⟨rfl, _, x5.keep D _ nD.symm hD', ?_, bs ++ [decide (V.int r = V.int 0)], ?_, (x.trans x5).mut hD0 nD, ?_⟩⟩
          · rw [List.length_map]
            exact szlt (by omega)
          · rw [List.length_append, bn]
            rfl
          · rw [upd_same, List.map_append]
            rfl
        · rintro H' ⟨bs, bn, x, hD'⟩
          exact q D bs H' hD0 x hD' (by omega)
      · refine ⟨Nat.zero_le _, fun L hL => ?_⟩
        have nWL : W ≠ L := x1.well.ne hL
        have hL0 : H L = none := x1.free hL
        refine ⟨_, rfl, rfl, .int n, rfl, _, rfl, by omega, by omega, for_range (lo := 0) (n := n.toNat) (fun i σ H' => ∃ (bs : List Bool) (told : Bool) (y5 : Option V), bs.length = i ∧ Wx W H H' ∧ H' L = some (.lst (bs.map V.bl)) ∧ σ = [some (.ref W), some (.int n), some (.int lot), some (.ref L), some (.bl told), y5]) ⟨[], _, none, rfl, x1.new hL, upd_same, rfl⟩ ?_ ?_⟩
        · rintro i σ H2 hi ⟨bs, told, y5, bn, x2, eL, rfl⟩
          refine ⟨.ref W, rfl, (by show 2 ≤ sizeLine; decide), fun p hp => ?_⟩
          have x3 := (Wx.refl x2.well).new (o := .lst (([4, 9] : List Int).map V.int)) hp
          have hm := mod_lt (n := lot) (m := 2) (by decide)
          obtain ⟨v, hv, ev⟩ := ints_at (ns := [4, 9]) hm.1 hm.2
          have bv : 0 < v ∧ v < 1000 := (by decide : ∀ n ∈ ([4, 9] : List Int), 0 < n ∧ n < 1000) v hv
          refine ⟨_, rfl, lot, 2, rfl, rfl, (show (0 : Int) < 2 by decide), p, _, _, _, rfl, rfl, SqL.of upd_same, ev, W, v, rfl, bv.1, by omega, x3.well, fun r H4 _ _ x4 => ⟨rfl, _, rfl, ite2 (fun e => ?_) (fun e => ?_)⟩⟩
          · have eL4 := (x3.trans x4).keep _ _ nWL.symm eL
            refine ⟨.bl told, rfl, told, rfl, .ref L, rfl, .inl ⟨rfl, _, SqL.of eL4⟩, _, rfl, L, _, _, rfl, rfl, eL4, by rw [List.length_map]; exact szlt (by omega), bs ++ [!told], !told, _, by rw [List.length_append, bn]; rfl, (x2.trans (x3.trans x4)).mut hL0 nWL, by rw [upd_same, List.map_append]; rfl, rfl⟩
          · have eL4 := (x3.trans x4).keep _ _ nWL.symm eL
            refine ⟨.ref L, rfl, .inl ⟨rfl, _, SqL.of eL4⟩, _, rfl, L, _, _, rfl, rfl, eL4, by rw [List.length_map]; exact szlt (by omega), bs ++ [told], told, _, by rw [List.length_append, bn]; rfl, (x2.trans (x3.trans x4)).mut hL0 nWL, by rw [upd_same, List.map_append]; rfl, rfl⟩
        · rintro σ H2 ⟨bs, told, y5, bn, x2, eL, rfl⟩
          exact ⟨.ref L, rfl, q L bs H2 hL0 x2 eL (by omega)⟩
abbrev sV (c : Nat) : V := .str ⟨#[c]⟩
def abe : Str := " !\"#$&'()*+,-./0123456789:;<=>?@ABCDEFGHIJKLMNOPQRSTUVWXYZ[\\]^_`abcdefghijklmnopqrstuvwxyz{|}~"
def spSgs : Sp := fun vs H Q _ => ∃ (W : Addr) (n : Int), vs = [.ref W, .int n] ∧ 0 ≤ n ∧ n ≤ 200 ∧ IsW H W ∧ ∀ p (cs : List Nat) H', H p = none → Wx W H H' → H' p = some (.lst (cs.map sV)) → (cs.length : Int) = n → (∀ c ∈ cs, c < 128) → Q (.ref p) H'
theorem ok_law_any_signs (T : Txt K mg) : FnOk P w K mg base CX0 2 T.f_law_any_signs T.fd_law_any_signs ["_law_well_here", "_law_many"] spSgs := by
  refine T.d_law_any_signs.F.ok sc_law_any_signs (fun vs H Q E h => ?_) (fun cdv A outer s H vs Q E hr h => ?_)
  · obtain ⟨W, n, rfl, _⟩ := h
    rfl
  · obtain ⟨W, n, rfl, n0, n1, hI, q⟩ := h
    refine ⟨_, (pss_cons (ps_set (i := 2) sc_law_any_signs.nd rfl (.inr rfl) pe_str)
      (pss_one (ps_ret (pe_lc (own := [("_law_k", 3)]) (g := gName 3) (tt := tYes) (by rfl) sc_law_any_signs.nd (pi_range1 (by rfl) T.m_range (pa_cons (pv 1) pa_nil)) (blkOk_by (own := [("_law_k", 3)]) (N := ["_law_well_here", "_law_many", "_law_some", "_law_k"]) (sc := defScope s_law_any_signs) (by decide +kernel)) (fun _ _ _ _ _ => (pg_name (i := 3) sc_law_any_signs.nd rfl (Or.inl rfl))) (fun _ _ _ _ _ => pts_nil) (fun _ _ _ _ _ => (pe_ix ix_str (pv 2) (pe_call (ok_law_draw T) (hr.mono (by decide)) (by rfl) T.d_law_draw.g T.d_law_draw.F.kp T.d_law_draw.b .nil pass0 (pa_cons (pv 0) (pa_cons (pe_callB call_len_str (by rfl) T.m_len (by decide +kernel) (pa_cons (pv 2) pa_nil)) pa_nil))) (fun _ _ => rfl))))))), ?_⟩
    refine ⟨.int n, rfl, _, rfl, by omega, by omega, fun D hD => ?_⟩
    have nD : W ≠ D := hI.ne hD
    refine lc_range (lo := 0) (n := n.toNat) (fun i H' => ∃ t : List Nat, t.length = i ∧ (∀ c ∈ t, c ∈ abe.cps.toList) ∧ Wx W H H' ∧ H' D = some (.lst (t.map sV)))
      ⟨[], rfl, (fun _ h => nomatch h), (Wx.refl hI).new hD, upd_same⟩ ?_ ?_
    · rintro i H' hi ⟨t, tn, tz, x, hD'⟩
      refine ⟨rfl, .str abe, rfl, .ref W, rfl, .str abe, rfl, abe, rfl, (by show abe.length ≤ sizeLine; decide), W, 94, rfl, by decide, by decide, x.well, fun r H5 r0 r1 x5 => ?_⟩
      obtain ⟨c, hc, ec⟩ := atI_in (xs := abe.cps.toList) r0 r1
      refine ⟨abe, r, c, rfl, rfl, by decide, ec, _, x5.keep D _ nD.symm hD', ?_, t ++ [c], ?_, ?_, (x.trans x5).mut hD nD, ?_⟩
      · rw [List.length_map]
        exact szlt (by omega)
      · rw [List.length_append, tn]
        rfl
      · intro d hd
        rcases List.mem_append.mp hd with h | h
        · exact tz d h
        · rw [List.mem_singleton.mp h]
          exact hc
      · rw [upd_same, List.map_append]
        rfl
    · rintro H' ⟨t, tn, tz, x, hD'⟩
      exact q D t H' hD x hD' (by omega) fun c hc => (by decide : ∀ c ∈ abe.cps.toList, c < 128) c (tz c hc)

/-! ### parts by truths -/
def tr (bs : List Bool) (far x : Int) : Prop := ∃ k : Nat, x = far + k ∧ bs[k]? = some true
def sgF (cs : List Nat) (far x : Int) : Nat := (cs[(x - far).toNat]?).getD 0
theorem txtF_sg {cs : List Nat} {far : Int} {k : Nat} {c : Nat} (h : cs[k]? = some c) : txtF (sgF cs far) (far + k) (far + k + 1) = ⟨#[c]⟩ := by
  unfold txtF
  rw [show (far + (k : Int) + 1 - (far + (k : Int))).toNat = 1 by omega]
  show (⟨[sgF cs far (far + k + ((0 : Nat) : Int))].toArray⟩ : Str) = ⟨#[c]⟩
  unfold sgF
  rw [show (far + (k : Int) + ((0 : Nat) : Int) - far).toNat = k by omega, h]
  rfl
theorem sgF_asc {cs : List Nat} (h : ∀ c ∈ cs, c < 128) (far x : Int) : sgF cs far x < 128 := by
  unfold sgF
  cases e : cs[(x - far).toNat]? with
  | none => show (0 : Nat) < 128; decide
  | some c => exact h c (List.mem_of_getElem? e)
def spTP : Sp := fun vs H Q _ => ∃ (a b : Addr) (far : Int) (cs : List Nat) (bs : List Bool), vs = [.ref a, .ref b, .int far] ∧ H a = some (.lst (cs.map sV)) ∧ H b = some (.lst (bs.map V.bl)) ∧ cs.length = bs.length ∧ bs.length ≤ 500 ∧
  ∀ p S H', H p = none → Same H H' → can S → (∀ x, cov S x ↔ tr bs far x) → S.length ≤ bs.length → LP H' p (partsF (sgF cs far) S) → Q (.ref p) H'
/-- what is found behind the places below i, the last one first -/
structure TI (bs : List Bool) (far : Int) (i : Nat) (acc : List (Int × Int)) : Prop where
  pw : acc.Pairwise fun q u => u.2 < q.1
  lt : ∀ u ∈ acc, u.1 < u.2
  cv : ∀ x, cov acc x ↔ ∃ k : Nat, k < i ∧ x = far + k ∧ bs[k]? = some true
  top : ∀ u ∈ acc, u.2 ≤ far + i
  last : if 0 < i ∧ bs[i - 1]? = some true then ∃ q r, acc = q :: r ∧ q.2 = far + i else ∀ u ∈ acc, u.2 < far + i
theorem TI.zero {bs : List Bool} {far : Int} : TI bs far 0 [] :=
  ⟨List.Pairwise.nil, (fun _ h => nomatch h), fun x => ⟨fun c => absurd c cov_nil, fun ⟨k, h, _⟩ => absurd h (Nat.not_lt_zero _)⟩, (fun _ h => nomatch h), by rw [if_neg (fun h => absurd h.1 (Nat.lt_irrefl _))]; exact fun _ h => nomatch h⟩
theorem TI.no {bs : List Bool} {far : Int} {i : Nat} {acc : List (Int × Int)} (h : TI bs far i acc) (hb : bs[i]? = some false) : TI bs far (i + 1) acc := by
  refine ⟨h.pw, h.lt, fun x => ?_, fun u hu => by have := h.top u hu; omega, ?_⟩
  · rw [h.cv]
    constructor
    · rintro ⟨k, k1, k2⟩
      exact ⟨k, by omega, k2⟩
    · rintro ⟨k, k1, k2, k3⟩
      refine ⟨k, ?_, k2, k3⟩
      by_cases e : k = i
      · rw [e, hb] at k3
        cases k3
      · omega
  · rw [if_neg]
    · intro u hu
      have := h.top u hu
      omega
    · rintro ⟨_, e⟩
      rw [Nat.add_sub_cancel, hb] at e
      cases e
theorem cv_yes {bs : List Bool} {far : Int} {i : Nat} {x : Int} (hb : bs[i]? = some true) : (∃ k : Nat, k < i + 1 ∧ x = far + k ∧ bs[k]? = some true) ↔ (∃ k : Nat, k < i ∧ x = far + k ∧ bs[k]? = some true) ∨ x = far + i := by
  constructor
  · rintro ⟨k, k1, k2, k3⟩
    by_cases e : k = i
    · exact .inr (by rw [← e]; exact k2)
    · exact .inl ⟨k, by omega, k2, k3⟩
  · rintro (⟨k, k1, k2⟩ | e)
    · exact ⟨k, by omega, k2⟩
    · exact ⟨i, Nat.lt_succ_self _, e, hb⟩
theorem TI.add {bs : List Bool} {far : Int} {i : Nat} {acc : List (Int × Int)} (h : TI bs far i acc) (hb : bs[i]? = some true) (hn : ¬ (0 < i ∧ bs[i - 1]? = some true)) : TI bs far (i + 1) ((far + i, far + i + 1) :: acc) := by
  have hl := h.last
  rw [if_neg hn] at hl
  refine ⟨List.pairwise_cons.mpr ⟨fun u hu => hl u hu, h.pw⟩, fun u hu => ?_, fun x => ?_, fun u hu => ?_, ?_⟩
  · rcases List.mem_cons.mp hu with rfl | hu
    · dsimp only
      omega
    · exact h.lt u hu
  · rw [cov_cons, h.cv, cv_yes hb]
    dsimp only
    constructor
    · rintro (k | k)
      · exact .inr (by omega)
      · exact .inl k
    · rintro (k | k)
      · exact .inr k
      · exact .inl (by omega)
  · rcases List.mem_cons.mp hu with rfl | hu
    · dsimp only
      omega
    · have := h.top u hu
      omega
  · rw [if_pos ⟨Nat.succ_pos _, by rw [Nat.add_sub_cancel]; exact hb⟩]
    exact ⟨_, _, rfl, by dsimp only; omega⟩
theorem TI.grow {bs : List Bool} {far : Int} {i : Nat} {q : Int × Int} {r : List (Int × Int)} (h : TI bs far i (q :: r)) (hb : bs[i]? = some true) (hq : q.2 = far + i) : TI bs far (i + 1) ((q.1, far + i + 1) :: r) := by
  have hp := List.pairwise_cons.mp h.pw
  have q1 := h.lt q (List.mem_cons_self ..)
  refine ⟨List.pairwise_cons.mpr ⟨fun u hu => hp.1 u hu, hp.2⟩, fun u hu => ?_, fun x => ?_, fun u hu => ?_, ?_⟩
  · rcases List.mem_cons.mp hu with rfl | hu
    · dsimp only
      omega
    · exact h.lt u (List.mem_cons_of_mem _ hu)
  · have hc := h.cv x
    rw [cov_cons] at hc
    rw [cov_cons, cv_yes hb, ← hc]
    dsimp only
    constructor
    · rintro (k | k)
      · by_cases e : x < q.2
        · exact .inl (.inl ⟨k.1, e⟩)
        · exact .inr (by omega)
      · exact .inl (.inr k)
    · rintro ((k | k) | k)
      · exact .inl ⟨k.1, by omega⟩
      · exact .inr k
      · exact .inl ⟨by omega, by omega⟩
  · rcases List.mem_cons.mp hu with rfl | hu
    · dsimp only
      omega
    · have := h.top u (List.mem_cons_of_mem _ hu)
      omega
  · rw [if_pos ⟨Nat.succ_pos _, by rw [Nat.add_sub_cancel]; exact hb⟩]
    exact ⟨_, _, rfl, by dsimp only; omega⟩
theorem parts_rev (f : Int → Nat) (u : Int × Int) (r : List (Int × Int)) : partsF f (u :: r).reverse = partsF f r.reverse ++ [(u.1, txtF f u.1 u.2)] := by
  unfold partsF
  rw [List.reverse_cons, List.map_append]
  rfl
theorem ok_law_parts (T : Txt K mg) : FnOk P w K mg base CX0 1 T.f_law_parts T.fd_law_parts ["_law_signs", "_law_truths_here", "_law_far"] spTP := by
  refine T.d_law_parts.F.ok sc_law_parts (fun vs H Q E h => ?_) (fun cdv A outer s H vs Q E hr h => ?_)
  · obtain ⟨a, b, far, cs, bs, rfl, _⟩ := h
    rfl
  · obtain ⟨a, b, far, cs, bs, rfl, ha, hb, hl, lb, q⟩ := h
    refine ⟨_, (pss_cons (ps_set (i := 3) sc_law_parts.nd rfl (.inl rfl) (pe_lst pa_nil))
      (pss_cons (ps_for PassesOwn.never rfl (pi_range1 (by rfl) T.m_range (pa_cons (pe_callB call_len_seq (by rfl) T.m_len (by decide +kernel) (pa_cons (pv 0) pa_nil)) pa_nil)) (pg_name (i := 4) sc_law_parts.nd rfl (.inl rfl))
      (pss_one (ps_if (PW.pt (pw_and (pt_val (pe_ix ix_list (pv 1) (pv 4) (fun _ _ => rfl))) (pw_and (pt_cmpR op_gt (pv 4) pe_int (nomark _)) (pw_and1 (pt_val (pe_ix ix_list (pv 1) (pe_op op_sub (pv 4) pe_int) (fun _ _ => rfl)))))))
      (pss_one (ps_asg (pe_tup (pa_cons (pe_ix ix_tup (pe_ix ix_list (pv 3) (pe_un un_neg pe_int) (fun _ _ => rfl)) pe_int (fun _ _ => rfl)) (pa_cons (pe_op op_add_str (pe_ix ix_tup (pe_ix ix_list (pv 3) (pe_un un_neg pe_int) (fun _ _ => rfl)) pe_int (fun _ _ => rfl)) (pe_ix ix_list (pv 0) (pv 4) (fun _ _ => rfl))) pa_nil))) (pg_sub (pv 3) (pe_un un_neg pe_int) set_list)))
      (pss_one (ps_if (pt_val (pe_ix ix_list (pv 1) (pv 4) (fun _ _ => rfl)))
      (pss_one (ps_expr (pe_bm PySem.F.plainAttrs_list PySem.F.slot_list_append PySem.F.type_list_append mt_append (pv 3) (pa_cons (pe_tup (pa_cons (pe_op op_add (pv 2) (pv 4)) (pa_cons (pe_ix ix_list (pv 0) (pv 4) (fun _ _ => rfl)) pa_nil))) pa_nil))))
      pss_nil)))))
      (pss_one (ps_ret (pv 3))))), ?_⟩
    refine ⟨Nat.zero_le _, fun L hL => ?_⟩
    have sL := same_upd (o := .lst []) hL
    have lcs : (cs.map sV).length = cs.length := List.length_map ..
    refine ⟨.ref a, rfl, a, _, rfl, .inl (SqL.of (sL _ _ ha)), _, rfl, by omega, by omega, for_range (lo := 0) (n := (((cs.map sV).length : Nat) : Int).toNat) (fun i σ H' => Same H H' ∧ ∃ (acc : List (Int × Int)) (zs : List V) (y4 : Option V), H' L = some (.lst zs) ∧ Paired (PT2 H') zs (partsF (sgF cs far) acc.reverse) ∧ TI bs far i acc ∧ zs.length ≤ i ∧ σ = [some (.ref a), some (.ref b), some (.int far), some (.ref L), y4])
      ⟨sL, [], [], none, upd_same, .nil, TI.zero, Nat.le_refl _, rfl⟩ ?_ ?_⟩
    · rintro i σ H1 hi ⟨s1, acc, zs, y4, eL, hz, ti, lz, rfl⟩
      have hi' : i < cs.length := by omega
      obtain ⟨c, hc⟩ : ∃ c, cs[i]? = some c := ⟨cs[i], List.getElem?_eq_getElem hi'⟩
      obtain ⟨t, ht⟩ : ∃ t, bs[i]? = some t := ⟨bs[i]'(by omega), List.getElem?_eq_getElem (by omega)⟩
      have ac : atI (cs.map sV) (0 + (i : Int)) = some (sV c) := by
        rw [Int.zero_add]
        exact atI_nat (by rw [List.getElem?_map, hc]; rfl)
      have ab : atI (bs.map V.bl) (0 + (i : Int)) = some (.bl t) := by
        rw [Int.zero_add]
        exact atI_nat (by rw [List.getElem?_map, ht]; rfl)
      have ha1 := SqL.of (K := K) (s1 _ _ ha)
      have hb1 := SqL.of (K := K) (s1 _ _ hb)
      have tx := txtF_sg (far := far) hc
      cases t with
      | false =>
        refine ⟨.ref b, rfl, _, rfl, b, _, _, _, rfl, rfl, hb1, ab, false, rfl, .ref b, rfl, _, rfl, b, _, _, _, rfl, rfl, hb1, ab, false, rfl, s1, acc, zs, _, eL, hz, ti.no ht, by omega, rfl⟩
      | true =>
        refine ⟨.ref b, rfl, _, rfl, b, _, _, _, rfl, rfl, hb1, ab, true, rfl, _, rfl, _, _, rfl, rfl, _, rfl, ite2 (fun e => ?_) (fun e => ?_)⟩
        · have i0 : 0 < i := by
            have : (0 : Int) + (i : Int) > 0 := of_decide_eq_true e
            omega
          obtain ⟨t2, ht2⟩ : ∃ t, bs[i - 1]? = some t := ⟨bs[i - 1]'(by omega), List.getElem?_eq_getElem (by omega)⟩
          have ab2 : atI (bs.map V.bl) (0 + (i : Int) - 1) = some (.bl t2) := by
            rw [show (0 : Int) + (i : Int) - 1 = ((i - 1 : Nat) : Int) by omega]
            exact atI_nat (by rw [List.getElem?_map, ht2]; rfl)
          cases t2 with
          | true =>
            have la := ti.last
            rw [if_pos ⟨i0, ht2⟩] at la
            obtain ⟨qq, rr, rfl, hq⟩ := la
            rw [parts_rev] at hz
            obtain ⟨zs', v, rfl, hz', t', rfl, ht'⟩ := paired_snoc hz
            have q1 := ti.lt qq (List.mem_cons_self ..)
            have j0 : atI [V.int qq.1, V.str (txtF (sgF cs far) qq.1 qq.2)] 0 = some (.int qq.1) := rfl
            have j1 : atI [V.int qq.1, V.str (txtF (sgF cs far) qq.1 qq.2)] 1 = some (.str (txtF (sgF cs far) qq.1 qq.2)) := rfl
            have cv1 := (ti.cv qq.1).mp ⟨qq, List.mem_cons_self .., Int.le_refl _, q1⟩
            have tl := txtF_len (sgF cs far) qq.1 qq.2
            have hlow : far ≤ qq.1 := by
              obtain ⟨k, _, e', _⟩ := cv1
              omega
            refine ⟨.ref b, rfl, _, rfl, _, _, rfl, rfl, b, _, _, _, rfl, rfl, hb1, ab2, true, rfl, ?_⟩
            refine ⟨.ref L, rfl, 1, rfl, L, _, -1, _, rfl, rfl, SqL.of eL, atI_last _ _, t', _, 0, _, rfl, rfl, SqT.of ht', j0, .ref L, rfl, 1, rfl, L, _, -1, _, rfl, rfl, SqL.of eL, atI_last _ _, t', _, 1, _, rfl, rfl, SqT.of ht', j1, .ref a, rfl, _, rfl, a, _, _, _, rfl, rfl, ha1, ac, _, _, rfl, rfl, szl (by show _ + 1 ≤ _; omega), (by show 2 ≤ sizeLine; decide), fun p2 h2 => ?_⟩
            have eapp : txtF (sgF cs far) qq.1 qq.2 ++ (⟨#[c]⟩ : Str) = txtF (sgF cs far) qq.1 (far + i + 1) := by
              rw [← tx, ← hq]
              exact txtF_app (by omega) (by omega)
            rw [eapp]
            have s2 := same_upd (o := .tup [.int qq.1, .str (txtF (sgF cs far) qq.1 (far + i + 1))]) h2
            have eL2 := s2 _ _ eL
            refine ⟨.ref L, rfl, 1, rfl, L, _, -1, zs'.length, rfl, rfl, eL2, by rw [List.length_append]; exact ixN_last _, same_mut (s1.trans s2) hL, _, _, _, upd_same, ?_, ti.grow ht hq, by rw [List.length_set]; omega, rfl⟩
            rw [set_last, parts_rev]
            exact pt2s_upd eL2 (fun _ z => by cases z) (paired_app (pt2s_mono s2 hz') (.cons ⟨p2, rfl, upd_same⟩ .nil))
          | false =>
            refine ⟨.ref b, rfl, _, rfl, _, _, rfl, rfl, b, _, _, _, rfl, rfl, hb1, ab2, false, rfl, ?_⟩
            refine ⟨.ref b, rfl, _, rfl, b, _, _, _, rfl, rfl, hb1, ab, true, rfl, ?_⟩
            refine ⟨.ref L, rfl, .inl ⟨rfl, _, SqL.of eL⟩, _, rfl, _, rfl, _, _, rfl, rfl, .ref a, rfl, _, rfl, a, _, _, _, rfl, rfl, ha1, ac, (by show 2 ≤ sizeLine; decide), fun p2 h2 => ?_⟩
            have s2 := same_upd (o := .tup [.int (far + (0 + (i : Int))), sV c]) h2
            have eL2 := s2 _ _ eL
            refine ⟨L, _, _, rfl, rfl, eL2, szlt (by omega), same_mut (s1.trans s2) hL, _, _, _, upd_same, ?_, ti.add ht (fun z => by rw [ht2] at z; cases z.2), by rw [List.length_append]; show _ + 1 ≤ _; omega, rfl⟩
            rw [parts_rev, tx]
            refine pt2s_upd eL2 (fun _ z => by cases z) (paired_app (pt2s_mono s2 hz) (.cons ⟨p2, rfl, ?_⟩ .nil))
            rw [upd_same, Int.zero_add]
        · have i0 : ¬ 0 < i := fun z => e (decide_eq_true (show (0 : Int) + (i : Int) > 0 by omega))
          refine ⟨.ref b, rfl, _, rfl, b, _, _, _, rfl, rfl, hb1, ab, true, rfl, ?_⟩
          refine ⟨.ref L, rfl, .inl ⟨rfl, _, SqL.of eL⟩, _, rfl, _, rfl, _, _, rfl, rfl, .ref a, rfl, _, rfl, a, _, _, _, rfl, rfl, ha1, ac, (by show 2 ≤ sizeLine; decide), fun p2 h2 => ?_⟩
          have s2 := same_upd (o := .tup [.int (far + (0 + (i : Int))), sV c]) h2
          have eL2 := s2 _ _ eL
          refine ⟨L, _, _, rfl, rfl, eL2, szlt (by omega), same_mut (s1.trans s2) hL, _, _, _, upd_same, ?_, ti.add ht (fun z => i0 z.1), by rw [List.length_append]; show _ + 1 ≤ _; omega, rfl⟩
          rw [parts_rev, tx]
          refine pt2s_upd eL2 (fun _ z => by cases z) (paired_app (pt2s_mono s2 hz) (.cons ⟨p2, rfl, ?_⟩ .nil))
          rw [upd_same, Int.zero_add]
    · rintro σ H1 ⟨s1, acc, zs, y4, eL, hz, ti, lz, rfl⟩
      have hzl := Paired.length hz
      unfold partsF at hzl
      rw [List.length_map] at hzl
      refine ⟨.ref L, rfl, q L acc.reverse H1 hL s1 ⟨List.pairwise_reverse.mpr ti.pw, fun u hu => ti.lt u (List.mem_reverse.mp hu)⟩ (fun x => ?_) (by omega) ⟨zs, eL, hz⟩⟩
      have e1 : cov acc.reverse x ↔ cov acc x := ⟨fun ⟨u, hu, k⟩ => ⟨u, List.mem_reverse.mp hu, k⟩, fun ⟨u, hu, k⟩ => ⟨u, List.mem_reverse.mpr hu, k⟩⟩
      rw [e1, ti.cv]
      constructor
      · rintro ⟨k, _, k2⟩
        exact ⟨k, k2⟩
      · rintro ⟨k, k2, k3⟩
        have := (List.getElem?_eq_some_iff.mp k3).1
        exact ⟨k, by omega, k2, k3⟩

end
end My
namespace My
open PySem PySem.Spec PyProof.Rows L2 TL
theorem cutV_ex {α : Type} (f : α → V) (ns : List α) (lo hi : Option Int) : cutV (ns.map f) lo hi = ((ns.drop (HT.sIx ns.length 0 lo)).take (HT.sIx ns.length ns.length hi - HT.sIx ns.length 0 lo)).map f := by
  unfold cutV
  rw [List.length_map, List.map_take, List.map_drop]
theorem tr_rng {bs : List Bool} {far x : Int} (h : tr bs far x) : far ≤ x ∧ x < far + bs.length := by
  obtain ⟨k, rfl, h⟩ := h
  have := (List.getElem?_eq_some_iff.mp h).1
  omega
section
variable {P : Program} {w : World} {K : PySem.W.Frag} {mg : Str → Option Value} {base : Heap}
def spTR : Sp := fun vs H Q _ => ∃ (b : Addr) (far : Int) (bs : List Bool), vs = [.ref b, .int far] ∧ H b = some (.lst (bs.map V.bl)) ∧ bs.length ≤ 500 ∧
  ∀ p S H', H p = none → Same H H' → can S → (∀ x, cov S x ↔ tr bs far x) → S.length ≤ bs.length → LS H' p S → Q (.ref p) H'
theorem ok_law_runs (T : Txt K mg) : FnOk P w K mg base CX0 2 T.f_law_runs T.fd_law_runs ["_law_truths_here", "_law_far"] spTR := by
  refine T.d_law_runs.F.ok sc_law_runs (fun vs H Q E h => ?_) (fun cdv A outer s H vs Q E hr h => ?_)
  · obtain ⟨b, far, bs, rfl, _⟩ := h
    rfl
  · obtain ⟨b, far, bs, rfl, hb, lb, q⟩ := h
    refine ⟨_, (pss_cons (ps_set (i := 2) sc_law_runs.nd rfl (.inl rfl) (pe_call (ok_law_parts T) (hr.mono (by decide)) (by rfl) T.d_law_parts.g T.d_law_parts.F.kp T.d_law_parts.b .nil pass0 (pa_cons (pe_op op_rep (pe_lst (pa_cons pe_str pa_nil)) (pe_callB call_len_seq (by rfl) T.m_len (by decide +kernel) (pa_cons (pv 0) pa_nil))) (pa_cons (pv 0) (pa_cons (pv 1) pa_nil)))))
      (pss_one (ps_ret (pe_lc (own := [("_law_at", 3), ("_law_word", 4)]) (g := gTup K 2 (gCons (gName 3) (gCons (gName 4) gNil))) (tt := tYes) (by rfl) sc_law_runs.nd (pi_list (pv 2)) (blkOk_by (own := [("_law_at", 3), ("_law_word", 4)]) (N := ["_law_truths_here", "_law_far", "_law_some", "_law_at", "_law_word"]) (sc := defScope s_law_runs) (by decide +kernel)) (fun _ _ _ _ _ => (pg_tup rfl (pgs_cons (pg_name (i := 3) sc_law_runs.nd rfl (Or.inl rfl)) (pgs_cons (pg_name (i := 4) sc_law_runs.nd rfl (Or.inl rfl)) pgs_nil)))) (fun _ _ _ _ _ => pts_nil) (fun _ _ _ _ _ => (pe_tup (pa_cons (pv 3) (pa_cons (pe_op op_add (pv 3) (pe_callB call_len_str (by rfl) T.m_len (by decide +kernel) (pa_cons (pv 4) pa_nil))) pa_nil)))))))), ?_⟩
    have lbs : (bs.map V.bl).length = bs.length := List.length_map ..
    refine ⟨(by show 1 ≤ sizeLine; decide), fun l hl => ?_⟩
    have s1 := same_upd (o := .lst [.str "a"]) hl
    refine ⟨.ref b, rfl, b, _, rfl, .inl (SqL.of (s1 _ _ hb)), l, _, _, rfl, rfl, upd_same, by omega, by omega, ?_, fun e he => ?_⟩
    · show 1 * _ ≤ sizeLine
      exact szl (by omega)
    have s2 := same_upd (o := .lst (List.replicate (((bs.map V.bl).length : Nat) : Int).toNat [V.str "a"]).flatten) he
    have t2 := s1.trans s2
    have ee : (List.replicate (((bs.map V.bl).length : Nat) : Int).toNat [V.str "a"]).flatten = (List.replicate bs.length 97).map sV := by
      rw [List.flatten_replicate_singleton, List.map_replicate, Int.toNat_natCast, lbs]
      rfl
    refine ⟨.ref b, rfl, _, rfl, e, b, far, List.replicate bs.length 97, bs, rfl, by rw [upd_same, ee], t2 _ _ hb, List.length_replicate, lb, fun p S H3 np s3 cS vS lS LPp => ?_⟩
    obtain ⟨zs, ep, hz⟩ := LPp
    have lz : zs.length = S.length := by
      have := Paired.length hz
      unfold partsF at this
      rw [List.length_map] at this
      exact this
    refine ⟨.ref p, rfl, p, rfl, ⟨_, SqL.of ep⟩, fun D hD => ?_⟩
    refine lc_list (K := K) (a := p) (xs := zs) (fun i H' => Same H3 H' ∧ ∃ ys, H' D = some (.lst ys) ∧ Paired (PS2 H') ys ((S.take i).map iv)) ⟨same_upd hD, [], upd_same, .nil⟩ (fun i H' _ pv => SqL.of (pv.1 _ _ ep)) ?_ ?_
    · rintro i x H4 hi ⟨s4, ys, eD, hy⟩
      obtain ⟨pt, hpt, t, rfl, ht⟩ := paired_at hz hi
      unfold partsF at hpt
      rw [List.getElem?_map] at hpt
      cases hk : S[i]? with
      | none =>
        rw [hk] at hpt
        cases hpt
      | some u =>
        rw [hk] at hpt
        cases hpt
        have hil : i < S.length := (List.getElem?_eq_some_iff.mp hk).1
        have u1 := cS.2 u (List.mem_of_getElem? hk)
        have u2 := rng_of (U := S) (lo := far) (hi := far + bs.length) (fun x hx => tr_rng ((vS x).mp hx)) (List.mem_of_getElem? hk) u1
        have tl := txtF_len (sgF (List.replicate bs.length 97) far) u.1 u.2
        refine ⟨t, _, rfl, SqT.of (s4 _ _ ht), rfl, _, _, rfl, _, _, rfl, rfl, rfl, _, rfl, _, rfl, _, rfl, _, rfl, szl (by dsimp only; omega), _, _, rfl, rfl, (by show 2 ≤ sizeLine; decide), fun q2 hq2 => ?_⟩
        have s5 := same_upd (o := .tup [.int u.1, .int (u.1 + ((txtF (sgF (List.replicate bs.length 97) far) u.1 u.2).length : Int))]) hq2
        have eD2 := s5 _ _ eD
        have hyl := Paired.length hy
        rw [List.length_map, List.length_take] at hyl
        refine ⟨ys, eD2, szlt (by omega), same_mut (s4.trans s5) hD, ys ++ [.ref q2], upd_same, ?_⟩
        have e2 : u.1 + ((txtF (sgF (List.replicate bs.length 97) far) u.1 u.2).length : Int) = u.2 := by omega
        rw [take_map (fun u : Int × Int => iv u) hk]
        refine ps2s_upd eD2 (fun _ z => by cases z) (paired_app (ps2s_mono s5 hy) (.cons ⟨q2, rfl, ?_⟩ .nil))
        show (upd H4 q2 _) q2 = some (.tup [.int u.1, .int u.2])
        rw [← e2]
        exact upd_same
    · rintro H4 ⟨s4, ys, eD, hy⟩
      rw [lz, List.take_length] at hy
      exact q D S H4 (((t2.trans s3)).free hD) ((t2.trans s3).trans s4) cS vS lS ⟨ys, eD, hy⟩
def spIsP : Sp := fun vs H Q _ => ∃ (a : Addr) (ps : List Prt), vs = [.ref a] ∧ LP H a ps ∧ Q (.bl true) H
theorem ok_law_is_parts (T : Txt K mg) : FnOk P w K mg base CX0 1 T.f_law_is_parts T.fd_law_is_parts ["_law_found"] spIsP := by
  refine T.d_law_is_parts.F.ok sc_law_is_parts (fun vs H Q E h => ?_) (fun cdv A outer s H vs Q E hr h => ?_)
  · obtain ⟨a, ps, rfl, _⟩ := h
    rfl
  · obtain ⟨a, ps, rfl, ⟨xs, ha, hx⟩, q⟩ := h
    refine ⟨_, (pss_cons (ps_if (pt_not (pt_val (pe_callB call_isi (by rfl) T.m_isinstance (by decide +kernel) (pa_cons (pv 0) (pa_cons (pe_bltn (v := .ty "list") (by rfl) T.m_list (by decide +kernel) rfl) pa_nil)))))
      (pss_one (ps_ret pe_bl))
      pss_nil)
      (pss_cons (ps_for PassesOwn.never rfl (pi_list (pv 0)) (pg_name (i := 1) sc_law_is_parts.nd rfl (.inl rfl))
      (pss_cons (ps_if (PW.pt (pw_or (pt_not (pt_val (pe_callB call_isi (by rfl) T.m_isinstance (by decide +kernel) (pa_cons (pv 1) (pa_cons (pe_bltn (v := .ty "tuple") (by rfl) T.m_tuple (by decide +kernel) rfl) pa_nil))))) (pw_or (pt_cmpR op_ne (pe_callB call_len_seq (by rfl) T.m_len (by decide +kernel) (pa_cons (pv 1) pa_nil)) pe_int (nomark _)) (pw_or1 (pt_not (pt_val (pe_callB call_isi (by rfl) T.m_isinstance (by decide +kernel) (pa_cons (pe_ix ix_tup (pv 1) pe_int (fun _ _ => rfl)) (pa_cons (pe_bltn (v := .ty "str") (by rfl) T.m_str (by decide +kernel) rfl) pa_nil)))))))))
      (pss_one (ps_ret pe_bl))
      pss_nil)
      (pss_one (ps_if (PW.pt (pw_or (pt_not (pt_val (pe_callB call_isi (by rfl) T.m_isinstance (by decide +kernel) (pa_cons (pe_ix ix_tup (pv 1) pe_int (fun _ _ => rfl)) (pa_cons (pe_bltn (v := .ty "int") (by rfl) T.m_int (by decide +kernel) rfl) pa_nil))))) (pw_or1 (pt_val (pe_callB call_isi (by rfl) T.m_isinstance (by decide +kernel) (pa_cons (pe_ix ix_tup (pv 1) pe_int (fun _ _ => rfl)) (pa_cons (pe_bltn (v := .ty "bool") (by rfl) T.m_bool (by decide +kernel) rfl) pa_nil)))))))
      (pss_one (ps_ret pe_bl))
      pss_nil))))
      (pss_one (ps_ret pe_bl)))), ?_⟩
    refine ⟨.ref a, rfl, .ref a, .ty "list", _, _, true, rfl, .ty "list", .base (.lst ha), kit2 (by decide +kernel), true, rfl, ?_⟩
    refine ⟨.ref a, rfl, a, rfl, ⟨_, SqL.of ha⟩, for_list (K := K) (a := a) (xs := xs) (fun i σ H' => H' = H ∧ ∃ y, σ = [some (.ref a), y]) ⟨rfl, none, rfl⟩ (fun i σ H' _ pv => by rw [pv.1]; exact SqL.of ha) ?_ ?_⟩
    · rintro i x σ H1 hi ⟨rfl, y, rfl⟩
      obtain ⟨p, hp, t, rfl, ht⟩ := paired_at hx hi
      have i0 : atI [V.int p.1, V.str p.2] 0 = some (.int p.1) := rfl
      have i1 : atI [V.int p.1, V.str p.2] 1 = some (.str p.2) := rfl
      refine ⟨.ref t, rfl, .ref t, .ty "tuple", _, _, true, rfl, .ty "tuple", .base (.tup ht), kit2 (by decide +kernel), true, rfl, ?_⟩
      refine ⟨.ref t, rfl, t, _, rfl, .inr (SqT.of ht), rfl, false, rfl, ?_⟩
      refine ⟨.ref t, rfl, t, _, 1, _, rfl, rfl, SqT.of ht, i1, .str p.2, .ty "str", _, _, true, rfl, .ty "str", .base (.str p.2), kit2 (by decide +kernel), true, rfl, ?_⟩
      refine ⟨.ref t, rfl, t, _, 0, _, rfl, rfl, SqT.of ht, i0, .int p.1, .ty "int", _, _, true, rfl, .ty "int", .base (.int p.1), kit2 (by decide +kernel), true, rfl, ?_⟩
      exact ⟨.ref t, rfl, t, _, 0, _, rfl, rfl, SqT.of ht, i0, .int p.1, .ty "bool", _, _, false, rfl, .ty "bool", .base (.int p.1), kit2 (by decide +kernel), false, rfl, rfl, _, rfl⟩
    · rintro σ H1 ⟨rfl, y, rfl⟩
      exact q
def spIsR : Sp := fun vs H Q _ => ∃ (a : Addr) (S : List (Int × Int)), vs = [.ref a] ∧ LS H a S ∧ ∀ H', Same H H' → Q (.bl true) H'
theorem ok_law_is_runs (T : Txt K mg) : FnOk P w K mg base CX0 1 T.f_law_is_runs T.fd_law_is_runs ["_law_found"] spIsR := by
  refine T.d_law_is_runs.F.ok sc_law_is_runs (fun vs H Q E h => ?_) (fun cdv A outer s H vs Q E hr h => ?_)
  · obtain ⟨a, S, rfl, _⟩ := h
    rfl
  · obtain ⟨a, S, rfl, ⟨xs, ha, hx⟩, q⟩ := h
    refine ⟨_, (pss_cons (ps_if (pt_not (pt_val (pe_callB call_isi (by rfl) T.m_isinstance (by decide +kernel) (pa_cons (pv 0) (pa_cons (pe_bltn (v := .ty "list") (by rfl) T.m_list (by decide +kernel) rfl) pa_nil)))))
      (pss_one (ps_ret pe_bl))
      pss_nil)
      (pss_cons (ps_for PassesOwn.never rfl (pi_list (pv 0)) (pg_name (i := 1) sc_law_is_runs.nd rfl (.inl rfl))
      (pss_cons (ps_if (PW.pt (pw_or (pt_not (pt_val (pe_callB call_isi (by rfl) T.m_isinstance (by decide +kernel) (pa_cons (pv 1) (pa_cons (pe_bltn (v := .ty "tuple") (by rfl) T.m_tuple (by decide +kernel) rfl) pa_nil))))) (pw_or1 (pt_cmpR op_ne (pe_callB call_len_seq (by rfl) T.m_len (by decide +kernel) (pa_cons (pv 1) pa_nil)) pe_int (nomark _)))))
      (pss_one (ps_ret pe_bl))
      pss_nil)
      (pss_one (ps_if (pt_cmpR (op_neD hr.units) (pe_lc (own := [("_law_number", 2)]) (g := gName 2) (tt := tOr (tNot (tB (tCB (rIsi K) (tCons (tVar 2) (tCons (tC (.ty "int")) tNil))))) (tB (tCB (rIsi K) (tCons (tVar 2) (tCons (tC (.ty "bool")) tNil))))) (by rfl) sc_law_is_runs.nd (pi_tup (pv 1)) (blkOk_by (own := [("_law_number", 2)]) (N := ["_law_found", "_law_one", "_law_number"]) (sc := defScope s_law_is_runs) (by decide +kernel)) (fun _ _ _ _ _ => (pg_name (i := 2) sc_law_is_runs.nd rfl (Or.inl rfl))) (fun _ _ _ _ _ => (pts_one (PW.pt (pw_or (pt_not (pt_val (pe_callB call_isi (by rfl) T.m_isinstance (by decide +kernel) (pa_cons (pv 2) (pa_cons (pe_bltn (v := .ty "int") (by rfl) T.m_int (by decide +kernel) rfl) pa_nil))))) (pw_or1 (pt_val (pe_callB call_isi (by rfl) T.m_isinstance (by decide +kernel) (pa_cons (pv 2) (pa_cons (pe_bltn (v := .ty "bool") (by rfl) T.m_bool (by decide +kernel) rfl) pa_nil))))))))) (fun _ _ _ _ _ => (pv 2))) (pe_lst pa_nil) (nomark _))
      (pss_one (ps_ret pe_bl))
      pss_nil))))
      (pss_one (ps_ret pe_bl)))), ?_⟩
    refine ⟨.ref a, rfl, .ref a, .ty "list", _, _, true, rfl, .ty "list", .base (.lst ha), kit2 (by decide +kernel), true, rfl, ?_⟩
    refine ⟨.ref a, rfl, a, rfl, ⟨_, SqL.of ha⟩, for_list (K := K) (a := a) (xs := xs) (fun i σ H' => Same H H' ∧ ∃ y, σ = [some (.ref a), y, none]) ⟨Same.refl _, none, rfl⟩ (fun i σ H' _ pv => SqL.of (pv.1 _ _ ha)) ?_ ?_⟩
    · rintro i x σ H1 hi ⟨s1, y, rfl⟩
      obtain ⟨sp, hsp, t, rfl, ht0⟩ := paired_at hx hi
      rw [List.getElem?_map] at hsp
      cases hk : S[i]? with
      | none =>
        rw [hk] at hsp
        cases hsp
      | some u =>
        rw [hk] at hsp
        cases hsp
        have ht : H1 t = some (.tup [.int u.1, .int u.2]) := s1 _ _ ht0
        refine ⟨.ref t, rfl, .ref t, .ty "tuple", _, _, true, rfl, .ty "tuple", .base (.tup ht), kit2 (by decide +kernel), true, rfl, ?_⟩
        refine ⟨.ref t, rfl, t, _, rfl, .inr (SqT.of ht), rfl, false, rfl, ?_⟩
        refine ⟨.ref t, rfl, t, rfl, ⟨_, SqT.of ht⟩, fun D hD => ?_⟩
        refine lc_tup (K := K) (a := t) (xs := [.int u.1, .int u.2]) (fun i H' => Same H1 H' ∧ H' D = some (.lst [])) ⟨same_upd hD, upd_same⟩ (fun i H' _ pv => SqT.of (pv.1 _ _ ht)) ?_ ?_
        · rintro i x H2 hi ⟨s2, eD⟩
          obtain ⟨n, rfl⟩ := int_at (ns := [u.1, u.2]) hi
          exact ⟨rfl, .int n, rfl, .int n, .ty "int", _, _, true, rfl, .ty "int", .base (.int n), kit2 (by decide +kernel), true, rfl, .int n, rfl, .int n, .ty "bool", _, _, false, rfl, .ty "bool", .base (.int n), kit2 (by decide +kernel), false, rfl, s2, eD⟩
        · rintro H2 ⟨s2, eD⟩
          refine ⟨Nat.zero_le _, fun l hl => ?_⟩
          have s3 := same_upd (o := .lst []) hl
          exact ne_same (d := .list []) (.lst (SqL.of (s3 _ _ eD)) .nil) (.lst (SqL.of upd_same) .nil) (by decide) ⟨false, rfl, (s1.trans s2).trans s3, _, rfl⟩
    · rintro σ H1 ⟨s1, y, rfl⟩
      exact q H1 s1
def spHand : Sp := fun vs H Q _ => ∃ (a : Addr) (kind : Int) (xs : List V), vs = [.ref a, .int kind] ∧ H a = some (.lst xs) ∧ ∀ p H', H p = none → Same H H' → H' p = some (if kind = 0 then .lst xs else .tup xs) → Q (.ref p) H'
theorem ok_law_handed (T : Txt K mg) : FnOk P w K mg base CX0 1 T.f_law_handed T.fd_law_handed ["_law_some", "_law_kind"] spHand := by
  refine T.d_law_handed.F.ok sc_law_handed (fun vs H Q E h => ?_) (fun cdv A outer s H vs Q E hr h => ?_)
  · obtain ⟨a, kind, xs, rfl, _⟩ := h
    rfl
  · obtain ⟨a, kind, xs, rfl, ha, q⟩ := h
    refine ⟨_, (pss_cons (ps_if (pt_cmpR op_eq (pv 1) pe_int (nomark _))
      (pss_one (ps_ret (pe_callTy call_list_of (by rfl) T.m_list (by decide +kernel) (pa_cons (pv 0) pa_nil))))
      pss_nil)
      (pss_one (ps_ret (pe_callTy call_tuple_of (by rfl) T.m_tuple (by decide +kernel) (pa_cons (pv 0) pa_nil))))), ?_⟩
    refine ⟨_, rfl, rfl, _, rfl, ite2 (fun e => ?_) (fun e => ?_)⟩
    · have e1 : kind = 0 := V.int.inj (of_decide_eq_true e)
      rw [if_pos e1] at q
      exact ⟨.ref a, rfl, a, xs, rfl, .inl (SqL.of ha), fun l hl => q l _ hl (same_upd hl) upd_same⟩
    · have e1 : ¬ kind = 0 := fun z => e (decide_eq_true (by rw [z]))
      rw [if_neg e1] at q
      exact ⟨.ref a, rfl, a, xs, rfl, .inl ⟨SqL.of ha, fun l hl => q l _ hl (same_upd hl) upd_same⟩⟩
end
end My
namespace My
open PySem PySem.Spec PyProof.Rows L2 TL
section
variable {P : Program} {w : World} {K : PySem.W.Frag} {mg : Str → Option Value} {base : Heap}
def spSecond : Sp := fun vs H Q _ => ∃ (W a : Addr) (cs : List Nat), vs = [.ref W, .ref a] ∧ H a = some (.lst (cs.map sV)) ∧ W ≠ a ∧ 0 < cs.length ∧ cs.length ≤ 200 ∧ (∀ c ∈ cs, c < 128) ∧ IsW H W ∧
  ∀ p (cs2 : List Nat) H', Wx W H H' → H' p = some (.lst (cs2.map sV)) → cs2.length = cs.length → (∀ c ∈ cs2, c < 128) → Q (.ref p) H'
theorem ok_law_second (T : Txt K mg) : FnOk P w K mg base CX0 3 T.f_law_second T.fd_law_second ["_law_well_here", "_law_signs"] spSecond := by
  refine T.d_law_second.F.ok sc_law_second (fun vs H Q E h => ?_) (fun cdv A outer s H vs Q E hr h => ?_)
  · obtain ⟨W, a, cs, rfl, _⟩ := h
    rfl
  · obtain ⟨W, a, cs, rfl, ha, nWa, n0, n1, hcs, hI, q⟩ := h
    refine ⟨_, (pss_cons (ps_set (i := 2) sc_law_second.nd rfl (.inl rfl) (pe_call (ok_law_draw T) (hr.mono (by decide)) (by rfl) T.d_law_draw.g T.d_law_draw.F.kp T.d_law_draw.b .nil pass0 (pa_cons (pv 0) (pa_cons pe_int pa_nil))))
      (pss_cons (ps_set (i := 3) sc_law_second.nd rfl (.inl rfl) (pe_call (ok_law_draw T) (hr.mono (by decide)) (by rfl) T.d_law_draw.g T.d_law_draw.F.kp T.d_law_draw.b .nil pass0 (pa_cons (pv 0) (pa_cons (pe_callB call_len_seq (by rfl) T.m_len (by decide +kernel) (pa_cons (pv 1) pa_nil)) pa_nil))))
      (pss_cons (ps_set (i := 4) sc_law_second.nd rfl (.inl rfl) (pe_call (ok_law_any_signs T) (hr.mono (by decide)) (by rfl) T.d_law_any_signs.g T.d_law_any_signs.F.kp T.d_law_any_signs.b .nil pass0 (pa_cons (pv 0) (pa_cons (pe_callB call_len_seq (by rfl) T.m_len (by decide +kernel) (pa_cons (pv 1) pa_nil)) pa_nil))))
      (pss_one (ps_ret (pe_ix ix_list (pe_lst (pa_cons (pv 1) (pa_cons (pe_op op_cat (pe_op op_cat (pe_slice sl_list (pv 1) po_none (po_some (pv 3))) (pe_slice sl_list (pv 4) (po_some (pv 3)) (po_some (pe_op op_add (pv 3) pe_int)))) (pe_slice sl_list (pv 1) (po_some (pe_op op_add (pv 3) pe_int)) po_none)) (pa_cons (pv 4) pa_nil)))) (pv 2) (fun _ _ => rfl))))))), ?_⟩
    have lcs : (cs.map sV).length = cs.length := List.length_map ..
    refine ⟨.ref W, rfl, W, 3, rfl, by decide, by decide, hI, fun lot H1 l0 l1 x1 => ?_⟩
    have ha1 := x1.keep _ _ nWa.symm ha
    refine ⟨.ref W, rfl, .ref a, rfl, a, _, rfl, .inl (SqL.of ha1), W, _, rfl, by omega, by omega, x1.well, fun at_ H2 a0 a1 x2 => ?_⟩
    have ha2 := x2.keep _ _ nWa.symm ha1
    refine ⟨.ref W, rfl, .ref a, rfl, a, _, rfl, .inl (SqL.of ha2), W, _, rfl, by omega, by omega, x2.well, fun o os H3 no x3 eo lo ao => ?_⟩
    have ha3 := x3.keep _ _ nWa.symm ha2
    have x13 := (x1.trans x2).trans x3
    obtain ⟨k, rfl⟩ : ∃ k : Nat, at_ = k := ⟨at_.toNat, by omega⟩
    have hk : k < cs.length := by omega
    have lo' : os.length = cs.length := by omega
    have e1 : cutV (cs.map sV) none (some (k : Int)) = (cs.take k).map sV := by
      rw [cutV_ex, HT.sIx_nat]
      show ((cs.drop 0).take (min k cs.length - 0)).map sV = _
      rw [List.drop_zero, show min k cs.length - 0 = k by omega]
    have e2 : cutV (os.map sV) (some (k : Int)) (some ((k : Int) + 1)) = ((os.drop k).take 1).map sV := by
      rw [cutV_ex, show ((k : Int) + 1) = ((k + 1 : Nat) : Int) by omega, HT.sIx_nat, HT.sIx_nat, show min k os.length = k by omega, show min (k + 1) os.length - k = 1 by omega]
    have e3 : cutV (cs.map sV) (some ((k : Int) + 1)) none = (cs.drop (k + 1)).map sV := by
      rw [cutV_ex, show ((k : Int) + 1) = ((k + 1 : Nat) : Int) by omega, HT.sIx_nat, show min (k + 1) cs.length = k + 1 by omega]
      show ((cs.drop (k + 1)).take (cs.length - (k + 1))).map sV = _
      rw [List.take_of_length_le (by rw [List.length_drop]; exact Nat.le_refl _)]
    refine ⟨.ref a, rfl, .ref a, rfl, _, rfl, _, rfl, a, _, rfl, SqL.of ha3, fun p1 h1 => ?_⟩
    rw [e1]
    have s1 := same_upd (o := .lst ((cs.take k).map sV)) h1
    refine ⟨.ref o, rfl, _, rfl, _, rfl, _, rfl, _, 1, rfl, rfl, _, rfl, o, _, rfl, SqL.of (s1 _ _ eo), fun p2 h2 => ?_⟩
    rw [e2]
    have s2 := same_upd (o := .lst (((os.drop k).take 1).map sV)) h2
    have t1 : (cs.take k).length = k := by rw [List.length_take]; omega
    have t2 : ((os.drop k).take 1).length = 1 := by rw [List.length_take, List.length_drop]; omega
    have t3 : (cs.drop (k + 1)).length = cs.length - (k + 1) := List.length_drop ..
    refine ⟨p1, p2, _, _, rfl, rfl, s2 _ _ upd_same, upd_same, by rw [List.length_map, List.length_map]; exact szl (by omega), fun p3 h3 => ?_⟩
    rw [← List.map_append]
    have s3 := same_upd (o := .lst ((cs.take k ++ (os.drop k).take 1).map sV)) h3
    have t123 := (s1.trans s2).trans s3
    refine ⟨.ref a, rfl, _, rfl, _, 1, rfl, rfl, _, rfl, a, _, rfl, SqL.of (t123 _ _ ha3), fun p4 h4 => ?_⟩
    rw [e3]
    have s4 := same_upd (o := .lst ((cs.drop (k + 1)).map sV)) h4
    refine ⟨p3, p4, _, _, rfl, rfl, s4 _ _ upd_same, upd_same, by rw [List.length_map, List.length_map, List.length_append]; exact szl (by omega), fun p5 h5 => ?_⟩
    rw [← List.map_append]
    have s5 := same_upd (o := .lst ((cs.take k ++ (os.drop k).take 1 ++ cs.drop (k + 1)).map sV)) h5
    have e5 : (upd (upd (upd (upd (upd H3 p1 (.lst ((cs.take k).map sV))) p2 (.lst (((os.drop k).take 1).map sV))) p3 (.lst ((cs.take k ++ (os.drop k).take 1).map sV))) p4 (.lst ((cs.drop (k + 1)).map sV))) p5 (.lst ((cs.take k ++ (os.drop k).take 1 ++ cs.drop (k + 1)).map sV))) p5 = some (.lst ((cs.take k ++ (os.drop k).take 1 ++ cs.drop (k + 1)).map sV)) := upd_same
    have t5 := (t123.trans s4).trans s5
    generalize upd (upd (upd (upd (upd H3 p1 (.lst ((cs.take k).map sV))) p2 (.lst (((os.drop k).take 1).map sV))) p3 (.lst ((cs.take k ++ (os.drop k).take 1).map sV))) p4 (.lst ((cs.drop (k + 1)).map sV))) p5 (.lst ((cs.take k ++ (os.drop k).take 1 ++ cs.drop (k + 1)).map sV)) = H5 at *
    refine ⟨.ref o, rfl, (by show 3 ≤ sizeLine; decide), fun l hl => ?_⟩
    have s6 := same_upd (o := .lst [.ref a, .ref p5, .ref o]) hl
    have x6 := x13.same (t5.trans s6)
    have h012 : lot = 0 ∨ lot = 1 ∨ lot = 2 := by omega
    rcases h012 with rfl | rfl | rfl
    · exact ⟨_, rfl, l, _, _, _, rfl, rfl, SqL.of upd_same, rfl, q a cs _ x6 ((t5.trans s6) _ _ ha3) rfl hcs⟩
    · refine ⟨_, rfl, l, _, _, _, rfl, rfl, SqL.of upd_same, rfl, q p5 (cs.take k ++ (os.drop k).take 1 ++ cs.drop (k + 1)) _ x6 (s6 _ _ e5) ?_ fun c hc => ?_⟩
      · rw [List.length_append, List.length_append]
        omega
      · rcases List.mem_append.mp hc with hc | hc
        · rcases List.mem_append.mp hc with hc | hc
          · exact hcs c (List.mem_of_mem_take hc)
          · exact ao c (List.mem_of_mem_drop (List.mem_of_mem_take hc))
        · exact hcs c (List.mem_of_mem_drop hc)
    · exact ⟨_, rfl, l, _, _, _, rfl, rfl, SqL.of upd_same, rfl, q o os _ x6 ((t5.trans s6) _ _ eo) lo' ao⟩
def spAsk : Sp := fun vs H Q _ => ∃ (h a b r : Addr) (f g : Int → Nat) (A B R : List (Int × Int)) (lo : Int), vs = [.ref h] ∧ H h = some (.lst [.ref a, .ref b, .ref r]) ∧ IP H a (partsF f A) ∧ IP H b (partsF g B) ∧ IQ H r R ∧ Row lo A ∧ Row lo B ∧ can R ∧ R.length ≤ 600 ∧
  ∀ p j1 j2 c l U H', Same H H' → H p = none → H j1 = none → H j2 = none → H c = none → H l = none → p ≠ j1 → p ≠ j2 → p ≠ c → p ≠ l → can U → (∀ x, cov U x ↔ cov A x ∨ cov B x) → H' p = some (.lst [.ref j1, .ref j2, .ref c, .ref l]) →
    LP H' j1 (partsF (sel A f g) U) → LP H' j2 (partsF (sel B g f) U) → LP H' c (partsF f ((meet A R).map (·.2))) → LS H' l (lak R A) → Q (.ref p) H'
theorem LP.ne {H : Hp} {p j : Addr} {ps : List Prt} (h : LP H j ps) (hp : H p = none) : p ≠ j := fun z => by
  obtain ⟨xs, h1, _⟩ := h
  rw [← z, hp] at h1
  cases h1
theorem LS.ne {H : Hp} {p j : Addr} {S : List (Int × Int)} (h : LS H j S) (hp : H p = none) : p ≠ j := fun z => by
  obtain ⟨xs, h1, _⟩ := h
  rw [← z, hp] at h1
  cases h1
theorem ok_law_asked (T : Txt K mg) : FnOk P w K mg base CX0 5 T.f_law_asked T.fd_law_asked ["_law_handed_here"] spAsk := by
  refine T.d_law_asked.F.ok sc_law_asked (fun vs H Q E h => ?_) (fun cdv A outer s H vs Q E hr h => ?_)
  · obtain ⟨h, a, b, r, f, g, A, B, R, lo, rfl, _⟩ := h
    rfl
  · obtain ⟨h, a, b, r, f, g, A, B, R, lo, rfl, hh, ⟨xa, ha1, ha2⟩, ⟨xb, hb1, hb2⟩, ⟨xr, hr1, hr2⟩, rA, rB, cR, lR, q⟩ := h
    refine ⟨_, (pss_cons (ps_asg (pv 0) (pg_lst rfl (pgs_cons (pg_name (i := 1) sc_law_asked.nd rfl (.inl rfl)) (pgs_cons (pg_name (i := 2) sc_law_asked.nd rfl (.inl rfl)) (pgs_cons (pg_name (i := 3) sc_law_asked.nd rfl (.inl rfl)) pgs_nil)))))
      (pss_one (ps_ret (pe_lst (pa_cons (pe_call (ok_joined T) (hr.mono (by decide)) (by rfl) T.d_joined.g T.d_joined.F.kp T.d_joined.b .nil pass0 (pa_cons (pv 1) (pa_cons (pv 2) pa_nil))) (pa_cons (pe_call (ok_joined T) (hr.mono (by decide)) (by rfl) T.d_joined.g T.d_joined.F.kp T.d_joined.b .nil pass0 (pa_cons (pv 2) (pa_cons (pv 1) pa_nil))) (pa_cons (pe_call (ok_cut T) (hr.mono (by decide)) (by rfl) T.d_cut.g T.d_cut.F.kp T.d_cut.b .nil pass0 (pa_cons (pv 1) (pa_cons (pv 3) pa_nil))) (pa_cons (pe_call (ok_lacking T) (hr.mono (by decide)) (by rfl) T.d_lacking.g T.d_lacking.F.kp T.d_lacking.b .nil pass0 (pa_cons (pv 3) (pa_cons (pv 1) pa_nil))) pa_nil)))))))), ?_⟩
    have lA := rA.len
    have lB := rB.len
    refine ⟨.ref h, rfl, h, _, rfl, SqL.of hh, rfl, _, _, rfl, _, _, rfl, _, _, rfl, rfl, ?_⟩
    refine ⟨.ref a, rfl, .ref b, rfl, a, b, xa, xb, f, g, A, B, lo, rfl, ha1, ha2, hb1, hb2, rA.can, rB.can, rA.len, rB.len, rA.inR, rB.inR, fun j1 z1 U H1 n1 s1 e1 cU vU k1 => ?_⟩
    refine ⟨.ref b, rfl, .ref a, rfl, b, a, xb, xa, g, f, B, A, lo, rfl, hb1.mono s1, pt2s_mono s1 hb2, ha1.mono s1, pt2s_mono s1 ha2, rB.can, rA.can, rB.len, rA.len, rB.inR, rA.inR, fun j2 z2 U2 H2 n2 s2 e2 cU2 vU2 k2 => ?_⟩
    have eU : U2 = U := can_eq _ _ cU2 cU fun x => by
      rw [vU2, vU]
      exact Or.comm
    rw [eU] at k2
    have t2 := s1.trans s2
    refine ⟨.ref a, rfl, .ref r, rfl, a, r, xa, xr, f, A, R, rfl, ha1.mono t2, pt2s_mono t2 ha2, hr1.mono t2, ps2s_mono t2 hr2, rA.can, cR, by omega, by omega, rA.inR.wide, fun c z3 H3 n3 s3 e3 k3 => ?_⟩
    have t3 := t2.trans s3
    refine ⟨.ref r, rfl, .ref a, rfl, r, a, xr, xa, R, partsF f A, rfl, hr1.mono t3, ps2s_mono t3 hr2, ha1.mono t3, pt2s_mono t3 ha2, okP_partsF (by omega) rA.inR.wide, by omega, fun l z4 H4 n4 s4 e4 k4 => ⟨(by show 4 ≤ sizeLine; decide), fun p hp => ?_⟩⟩
    rw [tb_partsF rA.can] at k4
    have s5 := same_upd (o := .lst [.ref j1, .ref j2, .ref c, .ref l]) hp
    have L1 : LP H1 j1 (partsF (sel A f g) U) := ⟨z1, e1, k1⟩
    have L2 : LP H2 j2 (partsF (sel B g f) U) := ⟨z2, e2, k2⟩
    have L3 : LP H3 c (partsF f ((meet A R).map (·.2))) := ⟨z3, e3, k3⟩
    have L4 : LS H4 l (lak R A) := ⟨z4, e4, k4⟩
    have M1 := L1.mono ((s2.trans s3).trans s4)
    have M2 := L2.mono (s3.trans s4)
    have M3 := L3.mono s4
    exact q p j1 j2 c l U _ ((t3.trans s4).trans s5) ((t3.trans s4).free hp) n1 (s1.free n2) (t2.free n3) (t3.free n4) (M1.ne hp) (M2.ne hp) (M3.ne hp) (L4.ne hp) cU vU upd_same (M1.mono s5) (M2.mono s5) (M3.mono s5) (L4.mono s5)
end
end My
namespace My
open PySem PySem.Spec PyProof.Rows L2 TL
def bA (b : List Bool) (k : Nat) : Bool := (b[k]?).getD false
def cA (c : List Nat) (k : Nat) : Nat := (c[k]?).getD 0
def tab {α : Type} (n : Nat) (g : Nat → α) : List α := (List.range n).map g
theorem tab_len {α : Type} (n : Nat) (g : Nat → α) : (tab n g).length = n := by
  unfold tab
  rw [List.length_map, List.length_range]
theorem tab_snoc {α : Type} (n : Nat) (g : Nat → α) : tab (n + 1) g = tab n g ++ [g n] := by
  unfold tab
  rw [List.range_succ, List.map_append]
  rfl
theorem bA_at {b : List Bool} {k : Nat} (h : k < b.length) : atI (b.map V.bl) (0 + (k : Int)) = some (.bl (bA b k)) := by
  rw [Int.zero_add]
  refine atI_nat ?_
  unfold bA
  rw [List.getElem?_map, List.getElem?_eq_getElem h]
  rfl
theorem cA_at {c : List Nat} {k : Nat} (h : k < c.length) : atI (c.map sV) (0 + (k : Int)) = some (sV (cA c k)) := by
  rw [Int.zero_add]
  refine atI_nat ?_
  unfold cA
  rw [List.getElem?_map, List.getElem?_eq_getElem h]
  rfl
section
variable {P : Program} {w : World} {K : PySem.W.Frag} {mg : Str → Option Value} {base : Heap}
def spDue : Sp := fun vs H Q _ => ∃ (h a b x0 x1 x2 : Addr) (far : Int) (b0 b1 b2 : List Bool) (cs ds : List Nat), vs = [.ref h, .ref a, .ref b, .int far] ∧ H h = some (.lst [.ref x0, .ref x1, .ref x2]) ∧ H x0 = some (.lst (b0.map V.bl)) ∧ H x1 = some (.lst (b1.map V.bl)) ∧ H x2 = some (.lst (b2.map V.bl)) ∧ H a = some (.lst (cs.map sV)) ∧ H b = some (.lst (ds.map sV)) ∧
  b0.length = cs.length ∧ b1.length = cs.length ∧ b2.length = cs.length ∧ ds.length = cs.length ∧ cs.length ≤ 200 ∧
  ∀ p j1 j2 c l U S2 S3 H', Same H H' → H p = none → H j1 = none → H j2 = none → H c = none → H l = none → can U → (∀ x, cov U x ↔ tr (tab cs.length fun k => bA b0 k || bA b1 k) far x) → can S2 → (∀ x, cov S2 x ↔ tr (tab cs.length fun k => bA b2 k && bA b0 k) far x) → can S3 → (∀ x, cov S3 x ↔ tr (tab cs.length fun k => bA b2 k && !bA b0 k) far x) →
    H' p = some (.lst [.ref j1, .ref j2, .ref c, .ref l]) → LP H' j1 (partsF (sgF (tab cs.length fun k => if bA b0 k = true then cA cs k else cA ds k) far) U) → LP H' j2 (partsF (sgF (tab cs.length fun k => if bA b1 k = true then cA ds k else cA cs k) far) U) → LP H' c (partsF (sgF cs far) S2) → LS H' l S3 → Q (.ref p) H'
theorem ok_law_due (T : Txt K mg) : FnOk P w K mg base CX0 3 T.f_law_due T.fd_law_due ["_law_has", "_law_first", "_law_second_here", "_law_far"] spDue := by
  refine T.d_law_due.F.ok sc_law_due (fun vs H Q E h => ?_) (fun cdv A outer s H vs Q E hr h => ?_)
  · obtain ⟨h, a, b, x0, x1, x2, far, b0, b1, b2, cs, ds, rfl, _⟩ := h
    rfl
  · obtain ⟨h, a, b, x0, x1, x2, far, b0, b1, b2, cs, ds, rfl, hh, h0, h1, h2, ha, hb, l0, l1, l2, ld, ln, q⟩ := h
    refine ⟨_, (pss_cons (ps_set (i := 4) sc_law_due.nd rfl (.inl rfl) (pe_callB call_len_seq (by rfl) T.m_len (by decide +kernel) (pa_cons (pv 1) pa_nil)))
      (pss_cons (ps_setLc (i := 5) (own := [("_law_k", 11)]) (g := gName 11) (tt := tYes) (te := tOrV (tOp (rIxL K) (tOp (rIxL K) (tVar 0) (tC (.int 0))) (tVar 11)) (tOp (rIxL K) (tOp (rIxL K) (tVar 0) (tC (.int 1))) (tVar 11))) (by rfl) sc_law_due.nd rfl rfl (sw_true rfl rfl rfl (by decide +kernel)) (pi_range1 (by rfl) T.m_range (pa_cons (pv 4) pa_nil)) (blkOk_by (own := [("_law_k", 11)]) (N := ["_law_has", "_law_first", "_law_second_here", "_law_far", "_law_many", "_law_either", "_law_mine", "_law_theirs", "_law_least", "_law_shared", "_law_found", "_law_k"]) (sc := defScope s_law_due) (by decide +kernel)) (fun _ _ _ _ _ => (pg_name (i := 11) sc_law_due.nd rfl (Or.inl rfl))) (fun _ _ _ _ _ => pts_nil) (fun _ _ _ _ _ => (pe_or (pe_ix ix_list (pe_ix ix_list (pv 0) pe_int (fun _ _ => rfl)) (pv 11) (fun _ _ => rfl)) (pe_one (pe_ix ix_list (pe_ix ix_list (pv 0) pe_int (fun _ _ => rfl)) (pv 11) (fun _ _ => rfl))))))
      (pss_cons (ps_setLc (i := 6) (own := [("_law_k", 11)]) (g := gName 11) (tt := tYes) (te := (tOp (rIxL K) (tLst (tCons (tOp (rIxL K) (tVar 2) (tVar 11)) (tCons (tOp (rIxL K) (tVar 1) (tVar 11)) tNil))) (tCB (fun xs H Q => (∃ i : Int, xs = [V.int i] ∧ Q (V.int i) H) ∨ ∃ k : Bool, xs = [V.bl k] ∧ Q (V.int (if k then 1 else 0)) H) (tCons (tOp (rIxL K) (tOp (rIxL K) (tVar 0) (tC (.int 0))) (tVar 11)) tNil)))) (by rfl) sc_law_due.nd rfl rfl (sw_true rfl rfl rfl (by decide +kernel)) (pi_range1 (by rfl) T.m_range (pa_cons (pv 4) pa_nil)) (blkOk_by (own := [("_law_k", 11)]) (N := ["_law_has", "_law_first", "_law_second_here", "_law_far", "_law_many", "_law_either", "_law_mine", "_law_theirs", "_law_least", "_law_shared", "_law_found", "_law_k"]) (sc := defScope s_law_due) (by decide +kernel)) (fun _ _ _ _ _ => (pg_name (i := 11) sc_law_due.nd rfl (Or.inl rfl))) (fun _ _ _ _ _ => pts_nil) (fun _ _ _ _ _ => (pe_ix ix_list (pe_lst (pa_cons (pe_ix ix_list (pv 2) (pv 11) (fun _ _ => rfl)) (pa_cons (pe_ix ix_list (pv 1) (pv 11) (fun _ _ => rfl)) pa_nil))) (pe_callTy call_int1 (by rfl) T.m_int (by decide +kernel) (pa_cons (pe_ix ix_list (pe_ix ix_list (pv 0) pe_int (fun _ _ => rfl)) (pv 11) (fun _ _ => rfl)) pa_nil)) (fun _ _ => rfl))))
      (pss_cons (ps_setLc (i := 7) (own := [("_law_k", 11)]) (g := gName 11) (tt := tYes) (te := (tOp (rIxL K) (tLst (tCons (tOp (rIxL K) (tVar 1) (tVar 11)) (tCons (tOp (rIxL K) (tVar 2) (tVar 11)) tNil))) (tCB (fun xs H Q => (∃ i : Int, xs = [V.int i] ∧ Q (V.int i) H) ∨ ∃ k : Bool, xs = [V.bl k] ∧ Q (V.int (if k then 1 else 0)) H) (tCons (tOp (rIxL K) (tOp (rIxL K) (tVar 0) (tC (.int 1))) (tVar 11)) tNil)))) (by rfl) sc_law_due.nd rfl rfl (sw_true rfl rfl rfl (by decide +kernel)) (pi_range1 (by rfl) T.m_range (pa_cons (pv 4) pa_nil)) (blkOk_by (own := [("_law_k", 11)]) (N := ["_law_has", "_law_first", "_law_second_here", "_law_far", "_law_many", "_law_either", "_law_mine", "_law_theirs", "_law_least", "_law_shared", "_law_found", "_law_k"]) (sc := defScope s_law_due) (by decide +kernel)) (fun _ _ _ _ _ => (pg_name (i := 11) sc_law_due.nd rfl (Or.inl rfl))) (fun _ _ _ _ _ => pts_nil) (fun _ _ _ _ _ => (pe_ix ix_list (pe_lst (pa_cons (pe_ix ix_list (pv 1) (pv 11) (fun _ _ => rfl)) (pa_cons (pe_ix ix_list (pv 2) (pv 11) (fun _ _ => rfl)) pa_nil))) (pe_callTy call_int1 (by rfl) T.m_int (by decide +kernel) (pa_cons (pe_ix ix_list (pe_ix ix_list (pv 0) pe_int (fun _ _ => rfl)) (pv 11) (fun _ _ => rfl)) pa_nil)) (fun _ _ => rfl))))
      (pss_cons (ps_setLc (i := 8) (own := [("_law_k", 11)]) (g := gName 11) (tt := tYes) (te := tAndV (tOp (rIxL K) (tOp (rIxL K) (tVar 0) (tC (.int 2))) (tVar 11)) (tNotV (tOp (rIxL K) (tOp (rIxL K) (tVar 0) (tC (.int 0))) (tVar 11)))) (by rfl) sc_law_due.nd rfl rfl (sw_true rfl rfl rfl (by decide +kernel)) (pi_range1 (by rfl) T.m_range (pa_cons (pv 4) pa_nil)) (blkOk_by (own := [("_law_k", 11)]) (N := ["_law_has", "_law_first", "_law_second_here", "_law_far", "_law_many", "_law_either", "_law_mine", "_law_theirs", "_law_least", "_law_shared", "_law_found", "_law_k"]) (sc := defScope s_law_due) (by decide +kernel)) (fun _ _ _ _ _ => (pg_name (i := 11) sc_law_due.nd rfl (Or.inl rfl))) (fun _ _ _ _ _ => pts_nil) (fun _ _ _ _ _ => (pe_and (pe_ix ix_list (pe_ix ix_list (pv 0) pe_int (fun _ _ => rfl)) (pv 11) (fun _ _ => rfl)) (pe_one (pe_not (pe_ix ix_list (pe_ix ix_list (pv 0) pe_int (fun _ _ => rfl)) (pv 11) (fun _ _ => rfl)))))))
      (pss_cons (ps_setLc (i := 9) (own := [("_law_k", 11)]) (g := gName 11) (tt := tYes) (te := tAndV (tOp (rIxL K) (tOp (rIxL K) (tVar 0) (tC (.int 2))) (tVar 11)) (tOp (rIxL K) (tOp (rIxL K) (tVar 0) (tC (.int 0))) (tVar 11))) (by rfl) sc_law_due.nd rfl rfl (sw_true rfl rfl rfl (by decide +kernel)) (pi_range1 (by rfl) T.m_range (pa_cons (pv 4) pa_nil)) (blkOk_by (own := [("_law_k", 11)]) (N := ["_law_has", "_law_first", "_law_second_here", "_law_far", "_law_many", "_law_either", "_law_mine", "_law_theirs", "_law_least", "_law_shared", "_law_found", "_law_k"]) (sc := defScope s_law_due) (by decide +kernel)) (fun _ _ _ _ _ => (pg_name (i := 11) sc_law_due.nd rfl (Or.inl rfl))) (fun _ _ _ _ _ => pts_nil) (fun _ _ _ _ _ => (pe_and (pe_ix ix_list (pe_ix ix_list (pv 0) pe_int (fun _ _ => rfl)) (pv 11) (fun _ _ => rfl)) (pe_one (pe_ix ix_list (pe_ix ix_list (pv 0) pe_int (fun _ _ => rfl)) (pv 11) (fun _ _ => rfl))))))
      (pss_cons (ps_set (i := 10) sc_law_due.nd rfl (.inl rfl) (pe_lst (pa_cons (pe_call (ok_law_parts T) (hr.mono (by decide)) (by rfl) T.d_law_parts.g T.d_law_parts.F.kp T.d_law_parts.b .nil pass0 (pa_cons (pv 6) (pa_cons (pv 5) (pa_cons (pv 3) pa_nil)))) (pa_cons (pe_call (ok_law_parts T) (hr.mono (by decide)) (by rfl) T.d_law_parts.g T.d_law_parts.F.kp T.d_law_parts.b .nil pass0 (pa_cons (pv 7) (pa_cons (pv 5) (pa_cons (pv 3) pa_nil)))) (pa_cons (pe_call (ok_law_parts T) (hr.mono (by decide)) (by rfl) T.d_law_parts.g T.d_law_parts.F.kp T.d_law_parts.b .nil pass0 (pa_cons (pv 1) (pa_cons (pv 9) (pa_cons (pv 3) pa_nil)))) pa_nil)))))
      (pss_one (ps_ret (pe_op op_cat (pv 10) (pe_lst (pa_cons (pe_call (ok_law_runs T) (hr.mono (by decide)) (by rfl) T.d_law_runs.g T.d_law_runs.F.kp T.d_law_runs.b .nil pass0 (pa_cons (pv 8) (pa_cons (pv 3) pa_nil))) pa_nil)))))))))))), ?_⟩
    have lcs : (cs.map sV).length = cs.length := List.length_map ..
    have a0 : atI [V.ref x0, V.ref x1, V.ref x2] 0 = some (.ref x0) := rfl
    have a1 : atI [V.ref x0, V.ref x1, V.ref x2] 1 = some (.ref x1) := rfl
    have a2 : atI [V.ref x0, V.ref x1, V.ref x2] 2 = some (.ref x2) := rfl
    refine ⟨.ref a, rfl, a, _, rfl, .inl (SqL.of ha), ?_⟩
    -- either
    refine ⟨_, rfl, _, rfl, by omega, by omega, fun D hD => ?_⟩
    refine lc_range (lo := 0) (n := (((cs.map sV).length : Nat) : Int).toNat) (fun i H' => Same H H' ∧ H' D = some (.lst ((tab i fun k => bA b0 k || bA b1 k).map V.bl))) ⟨same_upd hD, upd_same⟩ ?_ ?_
    · rintro i H' hi ⟨s, eD⟩
      refine ⟨rfl, .ref h, rfl, h, _, 0, _, rfl, rfl, SqL.of (s _ _ hh), a0, _, rfl, x0, _, _, _, rfl, rfl, SqL.of (s _ _ h0), bA_at (by omega), _, rfl, ite2 (fun e => ?_) (fun e => ?_)⟩
      · refine ⟨_, eD, by rw [List.length_map, tab_len]; exact szlt (by omega), same_mut s hD, ?_⟩
        rw [upd_same, tab_snoc, List.map_append, e]
        rfl
      · refine ⟨.ref h, rfl, h, _, 1, _, rfl, rfl, SqL.of (s _ _ hh), a1, _, rfl, x1, _, _, _, rfl, rfl, SqL.of (s _ _ h1), bA_at (by omega), _, eD, by rw [List.length_map, tab_len]; exact szlt (by omega), same_mut s hD, ?_⟩
        rw [upd_same, tab_snoc, List.map_append, show bA b0 i = false by simpa using e]
        rfl
    rintro H1 ⟨s1, eD1⟩
    have nD1 : H D = none := hD
    -- mine
    refine ⟨_, rfl, _, rfl, by omega, by omega, fun D2 hD2 => ?_⟩
    refine lc_range (lo := 0) (n := (((cs.map sV).length : Nat) : Int).toNat) (fun i H' => Same H1 H' ∧ H' D2 = some (.lst ((tab i fun k => if bA b0 k = true then cA cs k else cA ds k).map sV))) ⟨same_upd hD2, upd_same⟩ ?_ ?_
    · rintro i H' hi ⟨s, eD⟩
      have t := s1.trans s
      refine ⟨rfl, .ref b, rfl, _, rfl, b, _, _, _, rfl, rfl, SqL.of (t _ _ hb), cA_at (by omega), .ref a, rfl, _, rfl, a, _, _, _, rfl, rfl, SqL.of (t _ _ ha), cA_at (by omega), (by show 2 ≤ sizeLine; decide), fun l hl => ?_⟩
      have sl := same_upd (o := .lst [sV (cA ds i), sV (cA cs i)]) hl
      have t' := t.trans sl
      refine ⟨.ref h, rfl, h, _, 0, _, rfl, rfl, SqL.of (t' _ _ hh), a0, _, rfl, x0, _, _, _, rfl, rfl, SqL.of (t' _ _ h0), bA_at (by omega), .inr ⟨_, rfl, ?_⟩⟩
      have ep : atI [sV (cA ds i), sV (cA cs i)] (if bA b0 i = true then (1 : Int) else 0) = some (sV (if bA b0 i = true then cA cs i else cA ds i)) := by
        cases bA b0 i <;> rfl
      refine ⟨l, _, _, _, rfl, rfl, SqL.of upd_same, ep, _, sl _ _ eD, by rw [List.length_map, tab_len]; exact szlt (by omega), same_mut (s.trans sl) hD2, ?_⟩
      rw [upd_same, tab_snoc, List.map_append]
      rfl
    rintro H2 ⟨s2, eD2⟩
    have t2 := s1.trans s2
    -- theirs
    refine ⟨_, rfl, _, rfl, by omega, by omega, fun D3 hD3 => ?_⟩
    refine lc_range (lo := 0) (n := (((cs.map sV).length : Nat) : Int).toNat) (fun i H' => Same H2 H' ∧ H' D3 = some (.lst ((tab i fun k => if bA b1 k = true then cA ds k else cA cs k).map sV))) ⟨same_upd hD3, upd_same⟩ ?_ ?_
    · rintro i H' hi ⟨s, eD⟩
      have t := t2.trans s
      refine ⟨rfl, .ref a, rfl, _, rfl, a, _, _, _, rfl, rfl, SqL.of (t _ _ ha), cA_at (by omega), .ref b, rfl, _, rfl, b, _, _, _, rfl, rfl, SqL.of (t _ _ hb), cA_at (by omega), (by show 2 ≤ sizeLine; decide), fun l hl => ?_⟩
      have sl := same_upd (o := .lst [sV (cA cs i), sV (cA ds i)]) hl
      have t' := t.trans sl
      refine ⟨.ref h, rfl, h, _, 1, _, rfl, rfl, SqL.of (t' _ _ hh), a1, _, rfl, x1, _, _, _, rfl, rfl, SqL.of (t' _ _ h1), bA_at (by omega), .inr ⟨_, rfl, ?_⟩⟩
      have ep : atI [sV (cA cs i), sV (cA ds i)] (if bA b1 i = true then (1 : Int) else 0) = some (sV (if bA b1 i = true then cA ds i else cA cs i)) := by
        cases bA b1 i <;> rfl
      refine ⟨l, _, _, _, rfl, rfl, SqL.of upd_same, ep, _, sl _ _ eD, by rw [List.length_map, tab_len]; exact szlt (by omega), same_mut (s.trans sl) hD3, ?_⟩
      rw [upd_same, tab_snoc, List.map_append]
      rfl
    rintro H3 ⟨s3, eD3⟩
    have t3 := t2.trans s3
    -- least
    refine ⟨_, rfl, _, rfl, by omega, by omega, fun D4 hD4 => ?_⟩
    refine lc_range (lo := 0) (n := (((cs.map sV).length : Nat) : Int).toNat) (fun i H' => Same H3 H' ∧ H' D4 = some (.lst ((tab i fun k => bA b2 k && !bA b0 k).map V.bl))) ⟨same_upd hD4, upd_same⟩ ?_ ?_
    · rintro i H' hi ⟨s, eD⟩
      have t := t3.trans s
      refine ⟨rfl, .ref h, rfl, h, _, 2, _, rfl, rfl, SqL.of (t _ _ hh), a2, _, rfl, x2, _, _, _, rfl, rfl, SqL.of (t _ _ h2), bA_at (by omega), _, rfl, ite2 (fun e => ?_) (fun e => ?_)⟩
      · refine ⟨.ref h, rfl, h, _, 0, _, rfl, rfl, SqL.of (t _ _ hh), a0, _, rfl, x0, _, _, _, rfl, rfl, SqL.of (t _ _ h0), bA_at (by omega), _, rfl, _, eD, by rw [List.length_map, tab_len]; exact szlt (by omega), same_mut s hD4, ?_⟩
        rw [upd_same, tab_snoc, List.map_append, e]
        rfl
      · refine ⟨_, eD, by rw [List.length_map, tab_len]; exact szlt (by omega), same_mut s hD4, ?_⟩
        rw [upd_same, tab_snoc, List.map_append, show bA b2 i = false by simpa using e]
        rfl
    rintro H4 ⟨s4, eD4⟩
    have t4 := t3.trans s4
    -- shared
    refine ⟨_, rfl, _, rfl, by omega, by omega, fun D5 hD5 => ?_⟩
    refine lc_range (lo := 0) (n := (((cs.map sV).length : Nat) : Int).toNat) (fun i H' => Same H4 H' ∧ H' D5 = some (.lst ((tab i fun k => bA b2 k && bA b0 k).map V.bl))) ⟨same_upd hD5, upd_same⟩ ?_ ?_
    · rintro i H' hi ⟨s, eD⟩
      have t := t4.trans s
      refine ⟨rfl, .ref h, rfl, h, _, 2, _, rfl, rfl, SqL.of (t _ _ hh), a2, _, rfl, x2, _, _, _, rfl, rfl, SqL.of (t _ _ h2), bA_at (by omega), _, rfl, ite2 (fun e => ?_) (fun e => ?_)⟩
      · refine ⟨.ref h, rfl, h, _, 0, _, rfl, rfl, SqL.of (t _ _ hh), a0, _, rfl, x0, _, _, _, rfl, rfl, SqL.of (t _ _ h0), bA_at (by omega), _, eD, by rw [List.length_map, tab_len]; exact szlt (by omega), same_mut s hD5, ?_⟩
        rw [upd_same, tab_snoc, List.map_append, e]
        rfl
      · refine ⟨_, eD, by rw [List.length_map, tab_len]; exact szlt (by omega), same_mut s hD5, ?_⟩
        rw [upd_same, tab_snoc, List.map_append, show bA b2 i = false by simpa using e]
        rfl
    rintro H5 ⟨s5, eD5⟩
    have t5 := t4.trans s5
    have en : (((cs.map sV).length : Nat) : Int).toNat = cs.length := by omega
    rw [en] at eD1 eD2 eD3 eD4 eD5
    have f1 := s5 _ _ (s4 _ _ (s3 _ _ (s2 _ _ eD1)))
    have f2 := s5 _ _ (s4 _ _ (s3 _ _ eD2))
    have f3 := s5 _ _ (s4 _ _ eD3)
    have f4 := s5 _ _ eD4
    refine ⟨_, rfl, _, rfl, _, rfl, D2, D, far, _, _, rfl, f2, f1, by rw [tab_len, tab_len], by rw [tab_len]; omega, fun j1 U H6 n6 s6 cU vU _ P1 => ?_⟩
    refine ⟨_, rfl, _, rfl, _, rfl, D3, D, far, _, _, rfl, s6 _ _ f3, s6 _ _ f1, by rw [tab_len, tab_len], by rw [tab_len]; omega, fun j2 U2 H7 n7 s7 cU2 vU2 _ P2 => ?_⟩
    rw [can_eq U2 U cU2 cU fun x => (vU2 x).trans (vU x).symm] at P2
    have t67 := s6.trans s7
    refine ⟨_, rfl, _, rfl, _, rfl, a, D5, far, cs, _, rfl, t67 _ _ (t5 _ _ ha), t67 _ _ eD5, by rw [tab_len], by rw [tab_len]; omega, fun c S2 H8 n8 s8 cS2 vS2 _ P3 => ⟨(by show 3 ≤ sizeLine; decide), fun e he => ?_⟩⟩
    have s9 := same_upd (o := .lst [.ref j1, .ref j2, .ref c]) he
    have t69 := (t67.trans s8).trans s9
    refine ⟨_, rfl, _, rfl, _, rfl, D4, far, _, rfl, t69 _ _ f4, by rw [tab_len]; omega, fun l S3 H10 n10 s10 cS3 vS3 _ P4 => ⟨(by show 1 ≤ sizeLine; decide), fun e2 he2 => ?_⟩⟩
    have s11 := same_upd (o := .lst [.ref l]) he2
    refine ⟨e, e2, _, _, rfl, rfl, s11 _ _ (s10 _ _ upd_same), upd_same, (by show 4 ≤ sizeLine; decide), fun p hp => ?_⟩
    have s12 := same_upd (o := .lst [.ref j1, .ref j2, .ref c, .ref l]) hp
    have tE := s11.trans s12
    have tF := s10.trans tE
    exact q p j1 j2 c l U S2 S3 _ ((t5.trans t69).trans tF) ((((t5.trans t69).trans s10).trans s11).free hp) (t5.free n6) ((t5.trans s6).free n7) ((t5.trans t67).free n8) ((t5.trans t69).free n10) cU vU cS2 vS2 cS3 vS3 upd_same (P1.mono (((s7.trans s8).trans s9).trans tF)) (P2.mono ((s8.trans s9).trans tF)) (P3.mono (s9.trans tF)) (P4.mono tE)
end
end My
namespace My
open PySem PySem.Spec PyProof.Rows L2 TL
/-! ### how many places truths tell -/
theorem lenS_app (a b : List (Int × Int)) : lenS (a ++ b) = lenS a + lenS b := by
  unfold lenS
  rw [List.map_append, List.sum_append]
theorem lenS_cons (u : Int × Int) (r : List (Int × Int)) : lenS (u :: r) = (u.2 - u.1) + lenS r := by
  unfold lenS
  rw [List.map_cons, List.sum_cons]
theorem lenS_rev : ∀ a : List (Int × Int), lenS a.reverse = lenS a
  | [] => rfl
  | u :: r => by
    have e : lenS [u] = u.2 - u.1 := by
      rw [lenS_cons]
      show _ + (0 : Int) = _
      omega
    rw [List.reverse_cons, lenS_app, lenS_rev r, e, lenS_cons]
    omega
theorem TI_ex (bs : List Bool) (far : Int) : ∀ i, i ≤ bs.length → ∃ acc, TI bs far i acc ∧ lenS acc = (((bs.take i).count true : Nat) : Int)
  | 0, _ => ⟨[], TI.zero, rfl⟩
  | i + 1, h => by
    obtain ⟨acc, ti, e⟩ := TI_ex bs far i (by omega)
    obtain ⟨t, ht⟩ : ∃ t, bs[i]? = some t := ⟨bs[i]'(by omega), List.getElem?_eq_getElem (by omega)⟩
    have et : (bs.take (i + 1)).count true = (bs.take i).count true + (if t = true then 1 else 0) := by
      rw [List.take_add_one, ht, List.count_append]
      cases t <;> rfl
    cases t with
    | false => exact ⟨acc, ti.no ht, by rw [et, e]; rfl⟩
    | true =>
      by_cases c : 0 < i ∧ bs[i - 1]? = some true
      · have la := ti.last
        rw [if_pos c] at la
        obtain ⟨q, r, rfl, hq⟩ := la
        refine ⟨_, ti.grow ht hq, ?_⟩
        rw [lenS_cons] at e ⊢
        rw [et, if_pos rfl]
        dsimp only
        omega
      · refine ⟨_, ti.add ht c, ?_⟩
        rw [lenS_cons, et, if_pos rfl, e]
        dsimp only
        omega
theorem count_len {bs : List Bool} {far : Int} {S : List (Int × Int)} (hS : can S) (hc : ∀ x, cov S x ↔ tr bs far x) : lenS S = ((bs.count true : Nat) : Int) := by
  obtain ⟨acc, ti, e⟩ := TI_ex bs far bs.length (Nat.le_refl _)
  rw [List.take_length] at e
  have hr : S = acc.reverse := can_eq _ _ hS ⟨List.pairwise_reverse.mpr ti.pw, fun u hu => ti.lt u (List.mem_reverse.mp hu)⟩ fun x => by
    have e1 : cov acc.reverse x ↔ cov acc x := ⟨fun ⟨u, hu, k⟩ => ⟨u, List.mem_reverse.mp hu, k⟩, fun ⟨u, hu, k⟩ => ⟨u, List.mem_reverse.mpr hu, k⟩⟩
    rw [e1, ti.cv, hc]
    constructor
    · rintro ⟨k, k2, k3⟩
      have := (List.getElem?_eq_some_iff.mp k3).1
      exact ⟨k, by omega, k2, k3⟩
    · rintro ⟨k, _, k2⟩
      exact ⟨k, k2⟩
  rw [hr, lenS_rev, e]

/-! ### bs.count(b) of a list of truths -/
def rCntB (K : PySem.W.Frag) : V → List V → Hp → VK → Prop := fun x xs H Q => ∃ (p : Addr) (bs : List Bool) (k : Bool), x = .ref p ∧ xs = [.bl k] ∧ SqL K H p (bs.map V.bl) ∧ Q (.int (bs.count k : Nat)) H
theorem plain_bools : ∀ bs : List Bool, PyData.plainAll (bs.map PyData.bool) = true
  | [] => rfl
  | _ :: r => by simp [PyData.plainAll, PyData.plain, plain_bools r]
theorem count_bools (k : Bool) : ∀ bs : List Bool, (bs.map PyData.bool).countP (fun y => PyData.eqv y (.bool k)) = bs.count k
  | [] => rfl
  | b :: r => by
    rw [List.map_cons, List.countP_cons, List.count_cons, count_bools k r]
    cases b <;> cases k <;> rfl
theorem mt_bcount {X : Cx} (hu : X.A.units + 64 < cLine) : MtR X "list.count" (rCntB X.K) := by
  intro pins s σ H x xs v us Q I rx rxs h
  obtain ⟨p, bs, k, rfl, rfl, hs, q⟩ := h
  cases rx
  obtain ⟨u, rfl, ru⟩ := rxs.one
  obtain ⟨its, rv, hl, hlen⟩ := I.list hs
  obtain ⟨as, ra⟩ := Dp.readsAll I _ _ _ (dp_bools bs) rv
  obtain ⟨as2, r2⟩ := Dp.reads I (.bool k) (.bl k) u (.bl k) ru
  refine PySem.SeqAt.count_list_data (xs := bs.map PyData.bool) (d := .bool k) hl.isList (by simpa using ra) r2 (plain_bools bs) rfl ?_ ?_
  · have := depth_bools bs
    rw [this]
    show X.A.units + 1 + min 0 _ < cLine
    omega
  · rw [count_bools]
    exact ⟨.int _, H, I.tok _, ⟨_, rfl⟩, q⟩

end My
namespace My
open PySem PySem.Spec PyProof.Rows L2 TL
/-! ### place by place: what is asked is what is due -/
theorem tab_at {α : Type} {n k : Nat} (g : Nat → α) (h : k < n) : (tab n g)[k]? = some (g k) := by
  unfold tab
  rw [List.getElem?_map, List.getElem?_range h]
  rfl
theorem tr_tab {n : Nat} {g : Nat → Bool} {far x : Int} : tr (tab n g) far x ↔ ∃ k : Nat, k < n ∧ x = far + k ∧ g k = true := by
  constructor
  · rintro ⟨k, e, h⟩
    have hk : k < n := by
      have := (List.getElem?_eq_some_iff.mp h).1
      rwa [tab_len] at this
    rw [tab_at g hk] at h
    exact ⟨k, hk, e, Option.some.inj h⟩
  · rintro ⟨k, hk, e, h⟩
    exact ⟨k, e, by rw [tab_at g hk, h]⟩
theorem tr_bA {b : List Bool} {far x : Int} : tr b far x ↔ ∃ k : Nat, k < b.length ∧ x = far + k ∧ bA b k = true := by
  constructor
  · rintro ⟨k, e, h⟩
    exact ⟨k, (List.getElem?_eq_some_iff.mp h).1, e, by unfold bA; rw [h]; rfl⟩
  · rintro ⟨k, hk, e, h⟩
    refine ⟨k, e, ?_⟩
    unfold bA at h
    rw [List.getElem?_eq_getElem hk] at h ⊢
    exact congrArg some h
theorem tr_at {b : List Bool} {far : Int} {k : Nat} (hk : k < b.length) : tr b far (far + k) ↔ bA b k = true := by
  rw [tr_bA]
  constructor
  · rintro ⟨j, _, e, h⟩
    have : j = k := by omega
    rw [← this]
    exact h
  · intro h
    exact ⟨k, hk, rfl, h⟩
theorem sgF_at {cs : List Nat} {far : Int} {k : Nat} : sgF cs far (far + k) = cA cs k := by
  unfold sgF cA
  rw [show (far + (k : Int) - far).toNat = k by omega]
theorem tr_or {n : Nat} {b0 b1 : List Bool} {far x : Int} (h0 : b0.length = n) (h1 : b1.length = n) : tr (tab n fun k => bA b0 k || bA b1 k) far x ↔ tr b0 far x ∨ tr b1 far x := by
  rw [tr_tab, tr_bA, tr_bA, h0, h1]
  constructor
  · rintro ⟨k, hk, e, h⟩
    rcases Bool.or_eq_true _ _ |>.mp h with h | h
    · exact .inl ⟨k, hk, e, h⟩
    · exact .inr ⟨k, hk, e, h⟩
  · rintro (⟨k, hk, e, h⟩ | ⟨k, hk, e, h⟩)
    · exact ⟨k, hk, e, by rw [h]; rfl⟩
    · exact ⟨k, hk, e, by rw [h, Bool.or_true]⟩
theorem tr_and {n : Nat} {b0 b1 : List Bool} {far x : Int} (h0 : b0.length = n) (h1 : b1.length = n) : tr (tab n fun k => bA b1 k && bA b0 k) far x ↔ tr b0 far x ∧ tr b1 far x := by
  rw [tr_tab]
  constructor
  · rintro ⟨k, hk, e, h⟩
    simp only [Bool.and_eq_true] at h
    exact ⟨tr_bA.mpr ⟨k, by omega, e, h.2⟩, tr_bA.mpr ⟨k, by omega, e, h.1⟩⟩
  · rintro ⟨a, b⟩
    obtain ⟨k, hk, e, h⟩ := tr_bA.mp a
    refine ⟨k, by omega, e, ?_⟩
    rw [e, tr_at (by omega)] at b
    rw [b, h]
    rfl
theorem tr_not {n : Nat} {b0 b1 : List Bool} {far x : Int} (h0 : b0.length = n) (h1 : b1.length = n) : tr (tab n fun k => bA b1 k && !bA b0 k) far x ↔ tr b1 far x ∧ ¬ tr b0 far x := by
  rw [tr_tab]
  constructor
  · rintro ⟨k, hk, e, h⟩
    simp only [Bool.and_eq_true, Bool.not_eq_true'] at h
    refine ⟨tr_bA.mpr ⟨k, by omega, e, h.1⟩, fun z => ?_⟩
    rw [e, tr_at (by omega), h.2] at z
    cases z
  · rintro ⟨a, b⟩
    obtain ⟨k, hk, e, h⟩ := tr_bA.mp a
    refine ⟨k, by omega, e, ?_⟩
    rw [e, tr_at (by omega)] at b
    rw [h, show bA b0 k = false by simpa using b]
    rfl
/-- the signs of the one where it tells, else of the other -/
theorem sel_sg {n : Nat} {b0 b1 : List Bool} {A U : List (Int × Int)} {cs ds : List Nat} {far : Int} (h0 : b0.length = n) (h1 : b1.length = n) (vA : ∀ x, cov A x ↔ tr b0 far x) (vU : ∀ x, cov U x ↔ tr b0 far x ∨ tr b1 far x) :
    partsF (sel A (sgF cs far) (sgF ds far)) U = partsF (sgF (tab n fun k => if bA b0 k = true then cA cs k else cA ds k) far) U := by
  refine partsF_congr fun x hx => ?_
  obtain ⟨k, hk, e⟩ : ∃ k : Nat, k < n ∧ x = far + k := by
    rcases (vU x).mp hx with h | h
    · obtain ⟨k, hk, e, _⟩ := tr_bA.mp h
      exact ⟨k, by omega, e⟩
    · obtain ⟨k, hk, e, _⟩ := tr_bA.mp h
      exact ⟨k, by omega, e⟩
  have e1 : inC A x = bA b0 k := by
    rw [Bool.eq_iff_iff, inC_iff, vA, e, tr_at (by omega)]
  unfold sel
  rw [e1, e, sgF_at, sgF_at, sgF_at]
  show _ = ((tab n fun k => if bA b0 k = true then cA cs k else cA ds k)[k]?).getD 0
  rw [tab_at _ hk]
  rfl
/-! ### heaps that change at some lists alone -/
def Kx (js : List Addr) (H H' : Hp) : Prop := ∀ b o, b ∉ js → H b = some o → H' b = some o
def Ls (js : List Addr) (H : Hp) : Prop := ∀ j ∈ js, ∃ zs, H j = some (.lst zs)
theorem Kx.tup {js : List Addr} {H H' : Hp} (k : Kx js H H') (l : Ls js H) {t : Addr} {ys : List V} (h : H t = some (.tup ys)) : H' t = some (.tup ys) := k _ _ (fun z => by
  obtain ⟨zs, e⟩ := l t z
  rw [h] at e
  cases e) h
theorem Kx.pt2 {js : List Addr} {H H' : Hp} (k : Kx js H H') (l : Ls js H) {xs : List V} {ps : List Prt} (h : Paired (PT2 H) xs ps) : Paired (PT2 H') xs ps := Paired.mono (fun _ _ ⟨t, e, h⟩ => ⟨t, e, k.tup l h⟩) h
theorem Kx.ps2 {js : List Addr} {H H' : Hp} (k : Kx js H H') (l : Ls js H) {xs : List V} {ps : List Spn} (h : Paired (PS2 H) xs ps) : Paired (PS2 H') xs ps := Paired.mono (fun _ _ ⟨t, e, h⟩ => ⟨t, e, k.tup l h⟩) h
theorem Kx.lp {js : List Addr} {H H' : Hp} (k : Kx js H H') (l : Ls js H) {a : Addr} {ps : List Prt} (n : a ∉ js) : LP H a ps → LP H' a ps := fun ⟨xs, h, hx⟩ => ⟨xs, k _ _ n h, k.pt2 l hx⟩
theorem Kx.ls {js : List Addr} {H H' : Hp} (k : Kx js H H') (l : Ls js H) {a : Addr} {S : List (Int × Int)} (n : a ∉ js) : LS H a S → LS H' a S := fun ⟨xs, h, hx⟩ => ⟨xs, k _ _ n h, k.ps2 l hx⟩
/-! ### what is handed in: a list or a tuple -/
def hO (kind : Int) (xs : List V) : HO := if kind = 0 then .lst xs else .tup xs
def hDt (kind : Int) (ds : List PyData) : PyData := if kind = 0 then .list ds else .tuple ds
theorem hO_is {H : Hp} {kind : Int} {a : Addr} {xs : List V} (h : H a = some (hO kind xs)) : IsS H a xs := by
  unfold hO at h
  split at h
  · exact .inl h
  · exact .inr h
theorem hO_dp {K : PySem.W.Frag} {H : Hp} {kind : Int} {a : Addr} {xs : List V} {ds : List PyData} (h : H a = some (hO kind xs)) (d : DpAll K H xs ds) : Dp K H (.ref a) (hDt kind ds) := by
  unfold hO at h
  unfold hDt
  split at h
  · rename_i e
    rw [if_pos e]
    exact .lst (SqL.of h) d
  · rename_i e
    rw [if_neg e]
    exact .tup (SqT.of h) d
theorem hDt_lay (kind : Int) (ds : List PyData) : PyData.canLay0 (hDt kind ds) = PyData.canLayAll0 ds := by
  unfold hDt
  split <;> simp [PyData.canLay0]
theorem hDt_depth (kind : Int) (ds : List PyData) : PyData.depth (hDt kind ds) = PyData.depthAll ds + 1 := by
  unfold hDt
  split <;> simp [PyData.depth]
theorem shaped_hand {kind : Int} {ps qs : List Prt} {rs : List Spn} (h1 : ∀ p ∈ ps, Asc p.2) (h2 : ∀ p ∈ qs, Asc p.2) : SeqAt.shaped (.list [hDt kind (ps.map ptd), hDt kind (qs.map ptd), hDt kind (rs.map sd)]) = true := by
  have a1 := depth_pts ps
  have a2 := depth_pts qs
  have a3 := depth_sps rs
  simp only [SeqAt.shaped, PyData.canLay0, PyData.canLayAll0, PyData.depth, PyData.depthAll, hDt_lay, hDt_depth, lay_pts ps h1, lay_pts qs h2, lay_sps rs, Bool.and_true, Bool.true_and]
  exact decide_eq_true (by omega)
theorem shaped_four {ps qs us : List Prt} {rs : List Spn} (h1 : ∀ p ∈ ps, Asc p.2) (h2 : ∀ p ∈ qs, Asc p.2) (h3 : ∀ p ∈ us, Asc p.2) : SeqAt.shaped (.list [.list (ps.map ptd), .list (qs.map ptd), .list (us.map ptd), .list (rs.map sd)]) = true := by
  have a1 := depth_pts ps
  have a2 := depth_pts qs
  have a3 := depth_pts us
  have a4 := depth_sps rs
  simp only [SeqAt.shaped, PyData.canLay0, PyData.canLayAll0, PyData.depth, PyData.depthAll, lay_pts ps h1, lay_pts qs h2, lay_pts us h3, lay_sps rs, Bool.and_true, Bool.true_and]
  exact decide_eq_true (by omega)
theorem dp_four {K : PySem.W.Frag} {H : Hp} {p j1 j2 c l : Addr} {ps qs us : List Prt} {S : List (Int × Int)} (h : H p = some (.lst [.ref j1, .ref j2, .ref c, .ref l])) (h1 : LP H j1 ps) (h2 : LP H j2 qs) (h3 : LP H c us) (h4 : LS H l S) :
    Dp K H (.ref p) (.list [.list (ps.map ptd), .list (qs.map ptd), .list (us.map ptd), .list ((S.map iv).map sd)]) := by
  obtain ⟨x1, a1, b1⟩ := h1
  obtain ⟨x2, a2, b2⟩ := h2
  obtain ⟨x3, a3, b3⟩ := h3
  obtain ⟨x4, a4, b4⟩ := h4
  exact .lst (SqL.of h) (.cons (.lst (SqL.of a1) (dp_pts b1)) (.cons (.lst (SqL.of a2) (dp_pts b2)) (.cons (.lst (SqL.of a3) (dp_pts b3)) (.cons (.lst (SqL.of a4) (dp_sps b4)) .nil))))
end My
namespace My
open PySem PySem.Spec PyProof.Rows L2 TL
section
variable {P : Program} {w : World} {K : PySem.W.Frag} {mg : Str → Option Value} {base : Heap}
theorem ok_weightI (T : Txt K mg) : FnOk P w K mg base CX0 1 T.f_weight T.fd_weight ["parts"] spWeightI := by
  delta spWeightI
  exact ok_weight T
theorem ok_law (T : Txt K mg) : FnOk P w K mg base CX0 6 T.f_law T.fd_law ["_law_script"] (spLaw K) := by
  refine T.d_law.F.ok sc_law (fun vs H Q E h => ?_) (fun cdv A outer s H vs Q E hr h => ?_)
  · obtain ⟨a, ns, rfl, _⟩ := h
    rfl
  · obtain ⟨sc, ns, rfl, hS, hlen, q⟩ := h
    refine ⟨_, (pss_cons (ps_for PassesOwn.never rfl (pi_list (pe_op op_cat (pe_slice sl_list (pv 0) po_none (po_some pe_int)) (pe_lst (pa_cons pe_int (pa_cons pe_int (pa_cons pe_int pa_nil)))))) (pg_name (i := 1) sc_law.nd rfl (.inl rfl))
      (pss_cons (ps_set (i := 2) sc_law.nd rfl (.inr rfl) (pe_call (ok_law_well T) (hr.mono (by decide)) (by rfl) T.d_law_well.g T.d_law_well.F.kp T.d_law_well.b .nil pass0 (pa_cons (pv 1) pa_nil)))
      (pss_cons (ps_set (i := 3) sc_law.nd rfl (.inr rfl) (pe_call (ok_law_draw T) (hr.mono (by decide)) (by rfl) T.d_law_draw.g T.d_law_draw.F.kp T.d_law_draw.b .nil pass0 (pa_cons (pv 2) (pa_cons pe_int pa_nil))))
      (pss_cons (ps_set (i := 4) sc_law.nd rfl (.inr rfl) (pe_op op_add pe_int (pe_call (ok_law_draw T) (hr.mono (by decide)) (by rfl) T.d_law_draw.g T.d_law_draw.F.kp T.d_law_draw.b .nil pass0 (pa_cons (pv 2) (pa_cons pe_int pa_nil)))))
      (pss_cons (ps_set (i := 5) sc_law.nd rfl (.inl rfl) (pe_op op_mul (pe_call (ok_law_great T) (hr.mono (by decide)) (by rfl) T.d_law_great.g T.d_law_great.F.kp T.d_law_great.b .nil pass0 (pa_cons (pv 2) pa_nil)) (pe_callTy call_int1 (by rfl) T.m_int (by decide +kernel) (pa_cons (pe_cmpR op_eq (pe_call (ok_law_draw T) (hr.mono (by decide)) (by rfl) T.d_law_draw.g T.d_law_draw.F.kp T.d_law_draw.b .nil pass0 (pa_cons (pv 2) (pa_cons pe_int pa_nil))) pe_int (nomark _)) pa_nil))))
      (pss_cons (ps_setLc (i := 6) (own := [("_law_k", 15)]) (g := gName 15) (tt := tYes) (by rfl) sc_law.nd rfl rfl (sw_true rfl rfl rfl (by decide +kernel)) (pi_range1 (by rfl) T.m_range (pa_cons pe_int pa_nil)) (blkOk_by (own := [("_law_k", 15)]) (N := ["_law_script", "_law_cell", "_law_well_here", "_law_kind", "_law_many", "_law_far", "_law_has", "_law_first", "_law_second_here", "_law_rows", "_law_handed_here", "_law_found", "_law_due_here", "_law_one", "_law_heavy", "_law_k", "_law_some", "_law_row"]) (sc := defScope s_law) (by decide +kernel)) (fun _ _ _ _ _ => (pg_name (i := 15) sc_law.nd rfl (Or.inl rfl))) (fun _ _ _ _ _ => pts_nil) (fun _ _ _ _ _ => (pe_call (ok_law_truths T) (hr.mono (by decide)) (by rfl) T.d_law_truths.g T.d_law_truths.F.kp T.d_law_truths.b .nil pass0 (pa_cons (pv 2) (pa_cons (pv 4) pa_nil)))))
      (pss_cons (ps_setLc (i := 6) (own := [("_law_some", 16)]) (g := gName 16) (tt := tYes) (te := tOp (rIxL K) (tLst (tCons _ (tCons (tVar 16) (tCons (tVar 16) (tCons (tVar 16) tNil))))) _) (by rfl) sc_law.nd rfl rfl (sw_true rfl rfl rfl (by decide +kernel)) (pi_list (pv 6)) (blkOk_by (own := [("_law_some", 16)]) (N := ["_law_script", "_law_cell", "_law_well_here", "_law_kind", "_law_many", "_law_far", "_law_has", "_law_first", "_law_second_here", "_law_rows", "_law_handed_here", "_law_found", "_law_due_here", "_law_one", "_law_heavy", "_law_k", "_law_some", "_law_row"]) (sc := defScope s_law) (by decide +kernel)) (fun _ _ _ _ _ => (pg_name (i := 16) sc_law.nd rfl (Or.inl rfl))) (fun _ _ _ _ _ => pts_nil) (fun _ _ _ _ _ => (pe_ix ix_list (pe_lst (pa_cons (pe_op op_rep (pe_lst (pa_cons pe_bl pa_nil)) (pv 4)) (pa_cons (pv 16) (pa_cons (pv 16) (pa_cons (pv 16) pa_nil))))) (pe_call (ok_law_draw T) (hr.mono (by decide)) (by rfl) T.d_law_draw.g T.d_law_draw.F.kp T.d_law_draw.b .nil pass0 (pa_cons (pv 2) (pa_cons pe_int pa_nil))) (fun _ _ => rfl))))
      (pss_cons (ps_set (i := 7) sc_law.nd rfl (.inl rfl) (pe_call (ok_law_any_signs T) (hr.mono (by decide)) (by rfl) T.d_law_any_signs.g T.d_law_any_signs.F.kp T.d_law_any_signs.b .nil pass0 (pa_cons (pv 2) (pa_cons (pv 4) pa_nil))))
      (pss_cons (ps_set (i := 8) sc_law.nd rfl (.inl rfl) (pe_call (ok_law_second T) (hr.mono (by decide)) (by rfl) T.d_law_second.g T.d_law_second.F.kp T.d_law_second.b .nil pass0 (pa_cons (pv 2) (pa_cons (pv 7) pa_nil))))
      (pss_cons (ps_set (i := 9) sc_law.nd rfl (.inl rfl) (pe_lst (pa_cons (pe_call (ok_law_parts T) (hr.mono (by decide)) (by rfl) T.d_law_parts.g T.d_law_parts.F.kp T.d_law_parts.b .nil pass0 (pa_cons (pv 7) (pa_cons (pe_ix ix_list (pv 6) pe_int (fun _ _ => rfl)) (pa_cons (pv 5) pa_nil)))) (pa_cons (pe_call (ok_law_parts T) (hr.mono (by decide)) (by rfl) T.d_law_parts.g T.d_law_parts.F.kp T.d_law_parts.b .nil pass0 (pa_cons (pv 8) (pa_cons (pe_ix ix_list (pv 6) pe_int (fun _ _ => rfl)) (pa_cons (pv 5) pa_nil)))) (pa_cons (pe_call (ok_law_runs T) (hr.mono (by decide)) (by rfl) T.d_law_runs.g T.d_law_runs.F.kp T.d_law_runs.b .nil pass0 (pa_cons (pe_ix ix_list (pv 6) pe_int (fun _ _ => rfl)) (pa_cons (pv 5) pa_nil))) pa_nil)))))
      (pss_cons (ps_setLc (i := 10) (own := [("_law_row", 17)]) (g := gName 17) (tt := tYes) (by rfl) sc_law.nd rfl rfl (sw_true rfl rfl rfl (by decide +kernel)) (pi_list (pv 9)) (blkOk_by (own := [("_law_row", 17)]) (N := ["_law_script", "_law_cell", "_law_well_here", "_law_kind", "_law_many", "_law_far", "_law_has", "_law_first", "_law_second_here", "_law_rows", "_law_handed_here", "_law_found", "_law_due_here", "_law_one", "_law_heavy", "_law_k", "_law_some", "_law_row"]) (sc := defScope s_law) (by decide +kernel)) (fun _ _ _ _ _ => (pg_name (i := 17) sc_law.nd rfl (Or.inl rfl))) (fun _ _ _ _ _ => pts_nil) (fun _ _ _ _ _ => (pe_call (ok_law_handed T) (hr.mono (by decide)) (by rfl) T.d_law_handed.g T.d_law_handed.F.kp T.d_law_handed.b .nil pass0 (pa_cons (pv 17) (pa_cons (pv 3) pa_nil)))))
      (pss_cons (ps_set (i := 11) sc_law.nd rfl (.inl rfl) (pe_call (ok_law_asked T) (hr.mono (by decide)) (by rfl) T.d_law_asked.g T.d_law_asked.F.kp T.d_law_asked.b .nil pass0 (pa_cons (pv 10) pa_nil)))
      (pss_cons (ps_set (i := 12) sc_law.nd rfl (.inl rfl) (pe_call (ok_law_due T) (hr.mono (by decide)) (by rfl) T.d_law_due.g T.d_law_due.F.kp T.d_law_due.b .nil pass0 (pa_cons (pv 6) (pa_cons (pv 7) (pa_cons (pv 8) (pa_cons (pv 5) pa_nil))))))
      (pss_cons (ps_if (PW.pt (pw_or (pt_not (pt_val (pe_call (ok_law_is_runs T) (hr.mono (by decide)) (by rfl) T.d_law_is_runs.g T.d_law_is_runs.F.kp T.d_law_is_runs.b .nil pass0 (pa_cons (pe_ix ix_list (pv 11) pe_int (fun _ _ => rfl)) pa_nil)))) (pw_or1 (pt_cmpR (op_neD hr.units) (pe_lc (own := [("_law_one", 13)]) (g := gName 13) (by rfl) sc_law.nd (pi_list (pe_slice sl_list (pv 11) po_none (po_some pe_int))) (blkOk_by (own := [("_law_one", 13)]) (N := ["_law_script", "_law_cell", "_law_well_here", "_law_kind", "_law_many", "_law_far", "_law_has", "_law_first", "_law_second_here", "_law_rows", "_law_handed_here", "_law_found", "_law_due_here", "_law_one", "_law_heavy", "_law_k", "_law_some", "_law_row"]) (sc := defScope s_law) (by decide +kernel)) (fun _ _ _ _ _ => (pg_name (i := 13) sc_law.nd rfl (Or.inl rfl))) (fun _ _ _ _ _ => (pts_one (pt_not (pt_val (pe_call (ok_law_is_parts T) (hr.mono (by decide)) (by rfl) T.d_law_is_parts.g T.d_law_is_parts.F.kp T.d_law_is_parts.b .nil pass0 (pa_cons (pv 13) pa_nil)))))) (fun _ _ _ _ _ => (pv 13))) (pe_lst pa_nil) (nomark _)))))
      (pss_one (ps_ret pe_bl))
      pss_nil)
      (pss_cons (ps_if (pt_cmpR (op_neD hr.units) (pv 11) (pv 12) (nomark _))
      (pss_one (ps_ret pe_bl))
      pss_nil)
      (pss_cons (ps_for PassesOwn.never rfl (pi_list (pv 11)) (pg_name (i := 13) sc_law.nd rfl (.inl rfl))
      (pss_one (ps_expr (pe_bm0 PySem.F.plainAttrs_list PySem.F.slot_list_clear PySem.F.type_list_clear mt_clear (pv 13)))))
      (pss_cons (ps_if (PW.pt (pw_or (pt_cmpR (op_neD hr.units) (pv 10) (pe_lc (own := [("_law_row", 17)]) (g := gName 17) (tt := tYes) (by rfl) sc_law.nd (pi_list (pv 9)) (blkOk_by (own := [("_law_row", 17)]) (N := ["_law_script", "_law_cell", "_law_well_here", "_law_kind", "_law_many", "_law_far", "_law_has", "_law_first", "_law_second_here", "_law_rows", "_law_handed_here", "_law_found", "_law_due_here", "_law_one", "_law_heavy", "_law_k", "_law_some", "_law_row"]) (sc := defScope s_law) (by decide +kernel)) (fun _ _ _ _ _ => (pg_name (i := 17) sc_law.nd rfl (Or.inl rfl))) (fun _ _ _ _ _ => pts_nil) (fun _ _ _ _ _ => (pe_call (ok_law_handed T) (hr.mono (by decide)) (by rfl) T.d_law_handed.g T.d_law_handed.F.kp T.d_law_handed.b .nil pass0 (pa_cons (pv 17) (pa_cons (pv 3) pa_nil))))) (nomark _)) (pw_or1 (pt_cmpR (op_neD hr.units) (pe_call (ok_law_asked T) (hr.mono (by decide)) (by rfl) T.d_law_asked.g T.d_law_asked.F.kp T.d_law_asked.b .nil pass0 (pa_cons (pv 10) pa_nil)) (pv 12) (nomark _)))))
      (pss_one (ps_ret pe_bl))
      pss_nil)
      (pss_cons (ps_set (i := 14) sc_law.nd rfl (.inl rfl) (pe_lst (pa_cons (pe_call (ok_weightI T) (hr.mono (by decide)) (by rfl) T.d_weight.g T.d_weight.F.kp T.d_weight.b .nil pass0 (pa_cons (pe_ix ix_list (pv 10) pe_int (fun _ _ => rfl)) pa_nil)) (pa_cons (pe_call (ok_weightI T) (hr.mono (by decide)) (by rfl) T.d_weight.g T.d_weight.F.kp T.d_weight.b .nil pass0 (pa_cons (pe_ix ix_list (pv 10) pe_int (fun _ _ => rfl)) pa_nil)) pa_nil))))
      (pss_cons (ps_if (pt_cmpR (op_neD hr.units) (pe_lc (own := [("_law_one", 13)]) (g := gName 13) (tt := tOr (tNot (tB (tCB (rIsi K) (tCons (tVar 13) (tCons (tC (.ty "int")) tNil))))) (tB (tCB (rIsi K) (tCons (tVar 13) (tCons (tC (.ty "bool")) tNil))))) (by rfl) sc_law.nd (pi_list (pv 14)) (blkOk_by (own := [("_law_one", 13)]) (N := ["_law_script", "_law_cell", "_law_well_here", "_law_kind", "_law_many", "_law_far", "_law_has", "_law_first", "_law_second_here", "_law_rows", "_law_handed_here", "_law_found", "_law_due_here", "_law_one", "_law_heavy", "_law_k", "_law_some", "_law_row"]) (sc := defScope s_law) (by decide +kernel)) (fun _ _ _ _ _ => (pg_name (i := 13) sc_law.nd rfl (Or.inl rfl))) (fun _ _ _ _ _ => (pts_one (PW.pt (pw_or (pt_not (pt_val (pe_callB call_isi (by rfl) T.m_isinstance (by decide +kernel) (pa_cons (pv 13) (pa_cons (pe_bltn (v := .ty "int") (by rfl) T.m_int (by decide +kernel) rfl) pa_nil))))) (pw_or1 (pt_val (pe_callB call_isi (by rfl) T.m_isinstance (by decide +kernel) (pa_cons (pv 13) (pa_cons (pe_bltn (v := .ty "bool") (by rfl) T.m_bool (by decide +kernel) rfl) pa_nil))))))))) (fun _ _ _ _ _ => (pv 13))) (pe_lst pa_nil) (nomark _))
      (pss_one (ps_ret pe_bl))
      pss_nil)
      (pss_cons (ps_if (pt_cmpR (op_neD hr.units) (pv 14) (pe_lst (pa_cons (pe_bm PySem.F.plainAttrs_list PySem.F.slot_list_count PySem.F.type_list_count (mt_bcount hr.units) (pe_ix ix_list (pv 6) pe_int (fun _ _ => rfl)) (pa_cons pe_bl pa_nil)) (pa_cons (pe_bm PySem.F.plainAttrs_list PySem.F.slot_list_count PySem.F.type_list_count (mt_bcount hr.units) (pe_ix ix_list (pv 6) pe_int (fun _ _ => rfl)) (pa_cons pe_bl pa_nil)) pa_nil))) (nomark _))
      (pss_one (ps_ret pe_bl))
      pss_nil)
      (pss_one (ps_if (pt_cmpR (op_neD hr.units) (pv 10) (pe_lc (own := [("_law_row", 17)]) (g := gName 17) (tt := tYes) (by rfl) sc_law.nd (pi_list (pv 9)) (blkOk_by (own := [("_law_row", 17)]) (N := ["_law_script", "_law_cell", "_law_well_here", "_law_kind", "_law_many", "_law_far", "_law_has", "_law_first", "_law_second_here", "_law_rows", "_law_handed_here", "_law_found", "_law_due_here", "_law_one", "_law_heavy", "_law_k", "_law_some", "_law_row"]) (sc := defScope s_law) (by decide +kernel)) (fun _ _ _ _ _ => (pg_name (i := 17) sc_law.nd rfl (Or.inl rfl))) (fun _ _ _ _ _ => pts_nil) (fun _ _ _ _ _ => (pe_call (ok_law_handed T) (hr.mono (by decide)) (by rfl) T.d_law_handed.g T.d_law_handed.F.kp T.d_law_handed.b .nil pass0 (pa_cons (pv 17) (pa_cons (pv 3) pa_nil))))) (nomark _))
      (pss_one (ps_ret pe_bl))
      pss_nil))))))))))))))))))))))
      (pss_one (ps_ret pe_bl))), ?_⟩
    obtain ⟨ms, em, lm⟩ := cutV_map V.int ns none (some 20)
    refine ⟨.ref sc, rfl, 20, rfl, sc, _, rfl, hS, fun p1 h1 => ⟨(by show 3 ≤ sizeLine; decide), fun p2 h2 => ?_⟩⟩
    refine ⟨p1, p2, _, _, rfl, rfl, (same_upd h2) _ _ upd_same, upd_same, by rw [em, List.length_map]; exact szl (by show ms.length + 3 ≤ _; omega), fun p3 h3 => ?_⟩
    have ec : cutV (ns.map V.int) none (some 20) ++ [.int 0, .int 1, .int 12] = (ms ++ [0, 1, 12]).map V.int := by
      rw [em, List.map_append]
      rfl
    rw [ec]
    refine ⟨p3, rfl, ⟨_, SqL.of upd_same⟩, for_list (K := K) (a := p3) (xs := (ms ++ [0, 1, 12]).map V.int) (fun i σ H' => H' p3 = some (.lst ((ms ++ [0, 1, 12]).map V.int)) ∧ ∃ y1 y2 y3 y4 y5 y6 y7 y8 y9 y10 y11 y12 y13 y14, σ = [some (.ref sc), y1, y2, y3, y4, y5, y6, y7, y8, y9, y10, y11, y12, y13, y14, none, none, none])
      ⟨upd_same, none, none, none, none, none, none, none, none, none, none, none, none, none, none, rfl⟩ (fun i σ H' _ pv => SqL.of pv.1) ?_ ?_⟩
    · rintro i x σ H0 hx ⟨e30, y1, y2, y3, y4, y5, y6, y7, y8, y9, y10, y11, y12, y13, y14, rfl⟩
      obtain ⟨n, rfl⟩ := int_at hx
      refine ⟨.int n, rfl, n, rfl, fun W wa wb wc hW => ?_⟩
      have hI0 : IsW (upd H0 W (W3 wa wb wc)) W := ⟨wa, wb, wc, upd_same⟩
      have nWp : p3 ≠ W := ne_of_none e30 hW
      have e31 : (upd H0 W (W3 wa wb wc)) p3 = some (.lst ((ms ++ [0, 1, 12]).map V.int)) := (same_upd hW) _ _ e30
      refine ⟨.ref W, rfl, W, 2, rfl, by decide, by decide, hI0, fun kind H1 k0 k1 x1 => ?_⟩
      refine ⟨.ref W, rfl, W, 39, rfl, by decide, by decide, x1.well, fun m H2 m0 m1 x2 => ⟨2, m, rfl, rfl, ?_⟩⟩
      generalize hvm : (fun i j : Int => V.int (i + j)) 2 m = vm
      obtain ⟨many, mm0, mm1, rfl⟩ : ∃ many : Int, 2 ≤ many ∧ many ≤ 40 ∧ vm = .int many := ⟨2 + m, by omega, by omega, hvm.symm⟩
      refine ⟨.ref W, rfl, W, rfl, x2.well, fun g H3 g0 g1 x3 => ?_⟩
      refine ⟨.ref W, rfl, W, 4, rfl, by decide, by decide, x3.well, fun r2 H4 _ _ x4 => ⟨rfl, .inr ⟨_, rfl, g, _, rfl, rfl, .inr (by split <;> decide), ?_⟩⟩⟩
      have f0' : 0 ≤ g * (if decide (V.int r2 = V.int 0) = true then 1 else 0) := Int.mul_nonneg g0 (by split <;> decide)
      generalize hv : (fun i j : Int => V.int (i * j)) g (if decide (V.int r2 = V.int 0) = true then 1 else 0) = vfar
      obtain ⟨far, f0', rfl⟩ : ∃ far : Int, 0 ≤ far ∧ vfar = .int far := ⟨_, f0', hv.symm⟩
      have x14 := ((x1.trans x2).trans x3).trans x4
      -- has
      refine ⟨3, rfl, by decide, by decide, fun D hD => ?_⟩
      have nWD : W ≠ D := x4.well.ne hD
      refine lc_range (lo := 0) (n := 3) (fun i H' => ∃ xs : List (Addr × List Bool), xs.length = i ∧ Wx W H4 H' ∧ H' D = some (.lst (xs.map fun p => V.ref p.1)) ∧ ∀ p ∈ xs, H' p.1 = some (.lst (p.2.map V.bl)) ∧ (p.2.length : Int) = many ∧ W ≠ p.1 ∧ D ≠ p.1) ⟨[], rfl, (Wx.refl x4.well).new hD, upd_same, fun _ z => nomatch z⟩ ?_ ?_
      · rintro i H' hi ⟨xs, lx, x, eD, hx⟩
        refine ⟨rfl, .ref W, rfl, .int many, rfl, W, many, rfl, by omega, by omega, x.well, fun p bs H5 np x5 ep lb => ⟨_, x5.keep D _ nWD.symm eD, by rw [List.length_map]; exact szlt (by omega), xs ++ [(p, bs)], by rw [List.length_append, lx]; rfl, (x.trans x5).mut hD nWD, by rw [upd_same, List.map_append]; rfl, fun q hq => ?_⟩⟩
        rcases List.mem_append.mp hq with h | h
        · obtain ⟨a1, a2, a3, a4⟩ := hx q h
          exact ⟨by rw [upd_ne a4.symm]; exact x5.keep _ _ a3.symm a1, a2, a3, a4⟩
        · rw [List.mem_singleton.mp h]
          have nDp : D ≠ p := ne_of_none eD np
          exact ⟨by rw [upd_ne nDp.symm]; exact ep, lb, x.well.ne np, nDp⟩
      rintro H5 ⟨xs, lx, x5, eD, hx⟩
      refine ⟨.ref D, rfl, D, rfl, ⟨_, SqL.of eD⟩, fun D2 hD2 => ?_⟩
      have nWD2 : W ≠ D2 := x5.well.ne hD2
      have nDD2 : D ≠ D2 := ne_of_none eD hD2
      refine lc_list (K := K) (a := D) (xs := xs.map fun p => V.ref p.1) (fun i H' => ∃ ys : List (Addr × List Bool), ys.length = i ∧ Wx W H5 H' ∧ H' D2 = some (.lst (ys.map fun p => V.ref p.1)) ∧ ∀ p ∈ ys, H' p.1 = some (.lst (p.2.map V.bl)) ∧ (p.2.length : Int) = many ∧ W ≠ p.1 ∧ D2 ≠ p.1) ⟨[], rfl, (Wx.refl x5.well).new hD2, upd_same, fun _ z => nomatch z⟩ (fun i H' _ ⟨_, _, x, _⟩ => SqL.of (x.keep _ _ nWD.symm eD)) ?_ ?_
      · rintro i v H' hi ⟨ys, ly, x, eD2, hy⟩
        rw [List.getElem?_map] at hi
        cases hk : xs[i]? with
        | none =>
          rw [hk] at hi
          cases hi
        | some qq =>
          rw [hk] at hi
          cases hi
          have hil : i < xs.length := (List.getElem?_eq_some_iff.mp hk).1
          obtain ⟨b1, b2, b3, b4⟩ := hx qq (List.mem_of_getElem? hk)
          refine ⟨rfl, (by show 1 ≤ sizeLine; decide), fun l1 hl1 => ?_⟩
          refine ⟨.int many, rfl, l1, many, _, rfl, rfl, upd_same, by omega, by omega, (by show 1 * many.toNat ≤ sizeLine; exact szl (by omega)), fun f hf => ?_⟩
          have ef : (List.replicate many.toNat [V.bl false]).flatten = (List.replicate many.toNat false).map V.bl := by
            rw [List.flatten_replicate_singleton, List.map_replicate]
          rw [ef]
          have y1 := (Wx.refl x.well).new (o := .lst [V.bl false]) hl1
          have y2 := y1.new (o := .lst ((List.replicate many.toNat false).map V.bl)) hf
          have nWf : W ≠ f := y1.well.ne hf
          refine ⟨_, rfl, _, rfl, _, rfl, (by show 4 ≤ sizeLine; decide), fun l4 hl4 => ?_⟩
          have y4 := y2.new (o := .lst [.ref f, .ref qq.1, .ref qq.1, .ref qq.1]) hl4
          have nWl : W ≠ l4 := y2.well.ne hl4
          have nfl : f ≠ l4 := ne_of_none upd_same hl4
          refine ⟨.ref W, rfl, W, 4, rfl, by decide, by decide, y4.well, fun r H6 r0 r1 x6 => ?_⟩
          have z6 := y4.trans x6
          have eq6 := z6.keep _ _ b3.symm (x.keep _ _ b3.symm b1)
          have ef6 := x6.keep f _ nWf.symm (show (upd (upd (upd H' l1 (.lst [V.bl false])) f (.lst ((List.replicate many.toNat false).map V.bl))) l4 (.lst [.ref f, .ref qq.1, .ref qq.1, .ref qq.1])) f = _ by rw [upd_ne nfl, upd_same])
          have hfD2 : f ≠ D2 := fun z => by
            rw [z, (same_upd hl1) _ _ eD2] at hf
            cases hf
          have eD26 := z6.keep _ _ nWD2.symm eD2
          obtain ⟨pp, ev, e1, e2, e3, e4⟩ : ∃ pp : Addr × List Bool, atI [V.ref f, .ref qq.1, .ref qq.1, .ref qq.1] r = some (.ref pp.1) ∧ H6 pp.1 = some (.lst (pp.2.map V.bl)) ∧ (pp.2.length : Int) = many ∧ W ≠ pp.1 ∧ D2 ≠ pp.1 := by
            have nqD2 : D2 ≠ qq.1 := fun z => by
              have := x.keep _ _ b3.symm b1
              rw [← z, hD2] at b1
              cases b1
            have : r = 0 ∨ r = 1 ∨ r = 2 ∨ r = 3 := by omega
            rcases this with rfl | rfl | rfl | rfl
            · exact ⟨(f, List.replicate many.toNat false), rfl, ef6, by rw [List.length_replicate]; omega, nWf, hfD2.symm⟩
            · exact ⟨qq, rfl, eq6, b2, b3, nqD2⟩
            · exact ⟨qq, rfl, eq6, b2, b3, nqD2⟩
            · exact ⟨qq, rfl, eq6, b2, b3, nqD2⟩
          refine ⟨l4, _, r, _, rfl, rfl, SqL.of (x6.keep l4 _ nWl.symm upd_same), ev, _, eD26, by rw [List.length_map]; exact szlt (by omega), ys ++ [pp], by rw [List.length_append, ly]; rfl, (x.trans z6).mut hD2 nWD2, by rw [upd_same, List.map_append]; rfl, fun q hq => ?_⟩
          rcases List.mem_append.mp hq with h | h
          · obtain ⟨a1, a2, a3, a4⟩ := hy q h
            exact ⟨by rw [upd_ne a4.symm]; exact z6.keep _ _ a3.symm a1, a2, a3, a4⟩
          · rw [List.mem_singleton.mp h]
            exact ⟨by rw [upd_ne e4.symm]; exact e1, e2, e3, e4⟩
      rintro H6 ⟨ys, ly, x6, eD2, hy⟩
      rw [List.length_map, lx] at ly
      obtain ⟨⟨z0, b0⟩, ⟨z1, b1⟩, ⟨z2, b2⟩, rfl⟩ : ∃ a b c, ys = [a, b, c] := match ys, ly with
        | [a, b, c], _ => ⟨a, b, c, rfl⟩
      obtain ⟨ez0, lb0, nz0, _⟩ := hy _ (List.mem_cons_self ..)
      obtain ⟨ez1, lb1, nz1, _⟩ := hy _ (List.mem_cons_of_mem _ (List.mem_cons_self ..))
      obtain ⟨ez2, lb2, nz2, _⟩ := hy _ (List.mem_cons_of_mem _ (List.mem_cons_of_mem _ (List.mem_cons_self ..)))
      clear hy ly hx eD
      dsimp only at ez0 ez1 ez2 lb0 lb1 lb2 nz0 nz1 nz2
      -- first, second
      refine ⟨.ref W, rfl, .int many, rfl, W, many, rfl, by omega, by omega, x6.well, fun a cs H7 na x7 ea lc hc => ?_⟩
      have nWa : W ≠ a := x6.well.ne na
      refine ⟨.ref W, rfl, .ref a, rfl, W, a, cs, rfl, ea, nWa, by omega, by omega, hc, x7.well, fun b ds H8 x8 eb ld hd => ?_⟩
      have x78 := x7.trans x8
      have x8a := (x14.trans x5).trans (x6.trans x78)
      have e38 := x8a.keep _ _ nWp e31
      have ea8 := x8.keep _ _ nWa.symm ea
      have ez08 := x78.keep _ _ nz0.symm ez0
      have ez18 := x78.keep _ _ nz1.symm ez1
      have ez28 := x78.keep _ _ nz2.symm ez2
      have eD28 := x78.keep _ _ nWD2.symm eD2
      clear ez0 ez1 ez2 eD2 ea
      have i0 : atI [V.ref z0, .ref z1, .ref z2] 0 = some (.ref z0) := rfl
      have i1 : atI [V.ref z0, .ref z1, .ref z2] 1 = some (.ref z1) := rfl
      have i2 : atI [V.ref z0, .ref z1, .ref z2] 2 = some (.ref z2) := rfl
      -- rows
      refine ⟨.ref a, rfl, .ref D2, rfl, D2, _, 0, _, rfl, rfl, SqL.of eD28, i0, .int far, rfl, a, z0, far, cs, b0, rfl, ea8, ez08, by omega, by omega, fun q0 A H9 n9 s9 cA vA lA PA => ?_⟩
      refine ⟨.ref b, rfl, .ref D2, rfl, D2, _, 1, _, rfl, rfl, SqL.of (s9 _ _ eD28), i1, .int far, rfl, b, z1, far, ds, b1, rfl, s9 _ _ eb, s9 _ _ ez18, by omega, by omega, fun q1 B H10 n10 s10 cB vB lB PB => ?_⟩
      have t10 := s9.trans s10
      refine ⟨.ref D2, rfl, D2, _, 2, _, rfl, rfl, SqL.of (t10 _ _ eD28), i2, .int far, rfl, z2, far, b2, rfl, t10 _ _ ez28, by omega, fun q2 R H11 n11 s11 cR vR lR PR => ⟨(by show 3 ≤ sizeLine; decide), fun pr hpr => ?_⟩⟩
      have s12 := same_upd (o := .lst [.ref q0, .ref q1, .ref q2]) hpr
      have epr : (upd H11 pr (.lst [.ref q0, .ref q1, .ref q2])) pr = some (.lst [.ref q0, .ref q1, .ref q2]) := upd_same
      have t12 := (t10.trans s11).trans s12
      obtain ⟨xs0, eq0, hx0⟩ := PA.mono ((s10.trans s11).trans s12)
      obtain ⟨xs1, eq1, hx1⟩ := PB.mono (s11.trans s12)
      obtain ⟨xs2, eq2, hx2⟩ := PR.mono s12
      generalize upd H11 pr (.lst [.ref q0, .ref q1, .ref q2]) = H12 at *
      have rowA : Row far A := ⟨cA, ⟨f0', fun u hu => by
        have u1 := cA.2 u hu
        have := rng_of (U := A) (lo := far) (hi := far + b0.length) (fun x hx => tr_rng ((vA x).mp hx)) hu u1
        omega⟩, by omega⟩
      have rowB : Row far B := ⟨cB, ⟨f0', fun u hu => by
        have u1 := cB.2 u hu
        have := rng_of (U := B) (lo := far) (hi := far + b1.length) (fun x hx => tr_rng ((vB x).mp hx)) hu u1
        omega⟩, by omega⟩
      have rowR : Row far R := ⟨cR, ⟨f0', fun u hu => by
        have u1 := cR.2 u hu
        have := rng_of (U := R) (lo := far) (hi := far + b2.length) (fun x hx => tr_rng ((vR x).mp hx)) hu u1
        omega⟩, by omega⟩
      -- handed
      refine ⟨.ref pr, rfl, pr, rfl, ⟨_, SqL.of epr⟩, fun D3 hDD3 => ?_⟩
      refine lc_list (K := K) (a := pr) (xs := [V.ref q0, .ref q1, .ref q2]) (fun i H' => Same H12 H' ∧ ∃ hs : List Addr, hs.length = i ∧ H' D3 = some (.lst (hs.map V.ref)) ∧ ∀ (k : Nat) (h : Addr), hs[k]? = some h → ∃ q : Addr × List V, ([(q0, xs0), (q1, xs1), (q2, xs2)] : List (Addr × List V))[k]? = some q ∧ H' h = some (hO kind q.2) ∧ h ≠ D3) ⟨same_upd hDD3, [], rfl, upd_same, fun k h z => by simp at z⟩ (fun i H' _ pv => SqL.of (pv.1 _ _ epr)) ?_ ?_
      · rintro i x H' hi ⟨s, hs, lh, eD, hh⟩
        obtain ⟨q, hq, rfl, eq⟩ : ∃ q : Addr × List V, ([(q0, xs0), (q1, xs1), (q2, xs2)] : List (Addr × List V))[i]? = some q ∧ x = .ref q.1 ∧ H12 q.1 = some (.lst q.2) := by
          have hi3 : i < 3 := (List.getElem?_eq_some_iff.mp hi).1
          have : i = 0 ∨ i = 1 ∨ i = 2 := by omega
          rcases this with rfl | rfl | rfl
          · cases hi
            exact ⟨_, rfl, rfl, eq0⟩
          · cases hi
            exact ⟨_, rfl, rfl, eq1⟩
          · cases hi
            exact ⟨_, rfl, rfl, eq2⟩
        have hi3 : i < 3 := (List.getElem?_eq_some_iff.mp hi).1
        refine ⟨rfl, .ref q.1, rfl, .int kind, rfl, q.1, kind, q.2, rfl, s _ _ eq, fun h' H'' nh sh eh => ?_⟩
        have nhD : h' ≠ D3 := fun z => by
          rw [z, eD] at nh
          cases nh
        refine ⟨_, sh _ _ eD, by rw [List.length_map]; exact szlt (by omega), same_mut (s.trans sh) hDD3, hs ++ [h'], by rw [List.length_append, lh]; rfl, by rw [upd_same, List.map_append]; rfl, fun k h2 hk => ?_⟩
        by_cases hk2 : k < hs.length
        · rw [List.getElem?_append_left hk2] at hk
          obtain ⟨q', a1, a2, a3⟩ := hh k h2 hk
          exact ⟨q', a1, by rw [upd_ne a3]; exact sh _ _ a2, a3⟩
        · rw [List.getElem?_append_right (by omega)] at hk
          have hk0 : k - hs.length = 0 := by
            have := (List.getElem?_eq_some_iff.mp hk).1
            simp only [List.length_cons, List.length_nil] at this
            omega
          rw [hk0] at hk
          cases hk
          refine ⟨q, ?_, by rw [upd_ne nhD]; exact eh, nhD⟩
          rw [show k = i by omega]
          exact hq
      rintro Ha ⟨sa, hsa, lha, eDa, hha⟩
      obtain ⟨ua0, ua1, ua2, rfl⟩ : ∃ a b c, hsa = [a, b, c] := match hsa, lha with
        | [a, b, c], _ => ⟨a, b, c, rfl⟩
      obtain ⟨_, z, eua0, _⟩ := hha 0 _ rfl
      cases z
      obtain ⟨_, z, eua1, _⟩ := hha 1 _ rfl
      cases z
      obtain ⟨_, z, eua2, _⟩ := hha 2 _ rfl
      cases z
      have ip0 : IP Ha ua0 (partsF (sgF cs far) A) := ⟨xs0, hO_is eua0, pt2s_mono sa hx0⟩
      have ip1 : IP Ha ua1 (partsF (sgF ds far) B) := ⟨xs1, hO_is eua1, pt2s_mono sa hx1⟩
      have ip2 : IQ Ha ua2 R := ⟨xs2, hO_is eua2, ps2s_mono sa hx2⟩
      -- found
      refine ⟨.ref D3, rfl, D3, ua0, ua1, ua2, sgF cs far, sgF ds far, A, B, R, far, rfl, eDa, ip0, ip1, ip2, rowA, rowB, cR, by omega, fun p j1 j2 c l U H13 s13 np nj1 nj2 nc nl d1 d2 d3 d4 cU vU ep P1 P2 P3 P4 => ?_⟩
      have t13 := (t12.trans sa).trans s13
      -- due
      refine ⟨.ref D2, rfl, .ref a, rfl, .ref b, rfl, .int far, rfl, D2, a, b, z0, z1, z2, far, b0, b1, b2, cs, ds, rfl, t13 _ _ eD28, t13 _ _ ez08, t13 _ _ ez18, t13 _ _ ez28, t13 _ _ ea8, t13 _ _ eb, by omega, by omega, by omega, by omega, by omega, fun p' j1' j2' c' l' U' S2 S3 H14 s14 np' nj1' nj2' nc' nl' cU' vU' cS2 vS2 cS3 vS3 ep' P1' P2' P3' P4' => ?_⟩
      have l0 : b0.length = cs.length := by omega
      have l1 : b1.length = cs.length := by omega
      have l2 : b2.length = cs.length := by omega
      have vUt : ∀ x, cov U x ↔ tr b0 far x ∨ tr b1 far x := fun x => by rw [vU, vA, vB]
      have eU : U' = U := can_eq _ _ cU' cU fun x => by rw [vU', tr_or l0 l1, vUt]
      obtain ⟨mt1, mt2, mt3⟩ := meetF_ok (A.length + R.length) A R 0 (Nat.le_refl _) cA cR
      have cM : can ((meet A R).map (·.2)) := ⟨List.pairwise_map.mpr mt1, fun u hu => by
        obtain ⟨pp, hp, rfl⟩ := List.mem_map.mp hu
        exact (mt2 pp hp).1⟩
      have eS2 : S2 = (meet A R).map (·.2) := can_eq _ _ cS2 cM fun x => by
        rw [vS2, tr_and l0 l2, ← vA, ← vR]
        exact (mt3 x).symm
      obtain ⟨lk1, lk2⟩ := lak_ok cR cA rowR.inR.pos rowA.inR.pos
      have eS3 : S3 = lak R A := can_eq _ _ cS3 lk1 fun x => by rw [vS3, tr_not l0 l2, lk2, vA, vR]
      rw [eU, ← sel_sg l0 l1 vA vUt] at P1'
      rw [eU, ← sel_sg (b1 := b0) l1 l0 vB fun x => (vUt x).trans Or.comm] at P2'
      rw [eS2] at P3'
      rw [eS3] at P4'
      clear vU' vS2 vS3 cU' cS2 cS3
      have af : ∀ x, sgF cs far x < 128 := fun x => sgF_asc hc far x
      have ag : ∀ x, sgF ds far x < 128 := fun x => sgF_asc hd far x
      have asl : ∀ (C : List (Int × Int)) (f g : Int → Nat), (∀ x, f x < 128) → (∀ x, g x < 128) → ∀ x, sel C f g x < 128 := fun C f g hf hg x => by
        unfold sel
        split
        · exact hf x
        · exact hg x
      have a1 := asc_partsF (asl A _ _ af ag) U
      have a2 := asc_partsF (asl B _ _ ag af) U
      have a3 := asc_partsF af ((meet A R).map (·.2))
      have ep14 := s14 _ _ ep
      have P1f := P1.mono s14
      have P2f := P2.mono s14
      have P3f := P3.mono s14
      have P4f := P4.mono s14
      -- what kinds they are
      have k3 : atI [V.ref j1, .ref j2, .ref c, .ref l] 3 = some (.ref l) := rfl
      refine ⟨.ref p, rfl, p, _, 3, _, rfl, rfl, SqL.of ep14, k3, l, lak R A, rfl, P4f, fun H15 s15 => ⟨true, rfl, ?_⟩⟩
      refine ⟨.ref p, rfl, 3, rfl, p, _, rfl, SqL.of (s15 _ _ ep14), fun sl hsl => ?_⟩
      have s16 := same_upd (o := .lst [V.ref j1, .ref j2, .ref c]) hsl
      refine ⟨sl, rfl, ⟨_, SqL.of upd_same⟩, fun D4 hD4 => ?_⟩
      refine lc_list (K := K) (a := sl) (xs := [V.ref j1, .ref j2, .ref c]) (fun i H' => Same (upd H15 sl (.lst [V.ref j1, .ref j2, .ref c])) H' ∧ H' D4 = some (.lst [])) ⟨same_upd hD4, upd_same⟩ (fun i H' _ pv => SqL.of (pv.1 _ _ upd_same)) ?_ ?_
      · rintro i x H' hi ⟨s, eD4⟩
        have tt := (s15.trans s16).trans s
        have hi3 : i < 3 := (List.getElem?_eq_some_iff.mp hi).1
        have : i = 0 ∨ i = 1 ∨ i = 2 := by omega
        rcases this with rfl | rfl | rfl
        · cases hi
          exact ⟨rfl, _, rfl, j1, _, rfl, P1f.mono tt, true, rfl, s, eD4⟩
        · cases hi
          exact ⟨rfl, _, rfl, j2, _, rfl, P2f.mono tt, true, rfl, s, eD4⟩
        · cases hi
          exact ⟨rfl, _, rfl, c, _, rfl, P3f.mono tt, true, rfl, s, eD4⟩
      rintro H17 ⟨s17, eD4⟩
      refine ⟨Nat.zero_le _, fun e1 he1 => ?_⟩
      have s18 := same_upd (o := .lst []) he1
      refine ne_same (d := .list []) (.lst (SqL.of (s18 _ _ eD4)) .nil) (.lst (SqL.of upd_same) .nil) (by decide) ⟨false, rfl, ?_⟩
      have t18 := ((s15.trans s16).trans s17).trans s18
      generalize upd H17 e1 (.lst []) = H18 at *
      have ep18 := t18 _ _ ep14
      have P1g := P1f.mono t18
      have P2g := P2f.mono t18
      have P3g := P3f.mono t18
      have P4g := P4f.mono t18
      have P1h := P1'.mono t18
      have P2h := P2'.mono t18
      have P3h := P3'.mono t18
      have P4h := P4'.mono t18
      have ep18' := t18 _ _ ep'
      -- found != due
      refine ⟨.ref p, rfl, .ref p', rfl, ne_same (dp_four ep18 P1g P2g P3g P4g) (dp_four ep18' P1h P2h P3h P4h) (shaped_four a1 a2 a3) ⟨false, rfl, ?_⟩⟩
      -- emptied
      have LsJ : Ls [j1, j2, c, l] H18 := fun j hj => by
        simp only [List.mem_cons, List.not_mem_nil, or_false] at hj
        rcases hj with rfl | rfl | rfl | rfl
        · exact ⟨_, P1g.choose_spec.1⟩
        · exact ⟨_, P2g.choose_spec.1⟩
        · exact ⟨_, P3g.choose_spec.1⟩
        · exact ⟨_, P4g.choose_spec.1⟩
      refine ⟨.ref p, rfl, p, rfl, ⟨_, SqL.of ep18⟩, for_list (K := K) (a := p) (xs := [V.ref j1, .ref j2, .ref c, .ref l]) (fun i σ H' => Kx [j1, j2, c, l] H18 H' ∧ Ls [j1, j2, c, l] H' ∧ ∃ y13, σ = [some (.ref sc), some (.int n), some (.ref W), some (.int kind), some (.int many), some (.int far), some (.ref D2), some (.ref a), some (.ref b), some (.ref pr), some (.ref D3), some (.ref p), some (.ref p'), y13, y14, none, none, none])
        ⟨fun _ _ _ e => e, LsJ, y13, rfl⟩ (fun i σ H' _ pv => SqL.of (pv.1 _ _ (by simp only [List.mem_cons, List.not_mem_nil, or_false, not_or]; exact ⟨d1, d2, d3, d4⟩) ep18)) ?_ ?_⟩
      · rintro i v σ H' hi ⟨kx, lj, y13', rfl⟩
        obtain ⟨j, hj, rfl⟩ : ∃ j, j ∈ [j1, j2, c, l] ∧ v = .ref j := by
          have := List.mem_of_getElem? hi
          simp only [List.mem_cons, List.not_mem_nil, or_false] at this ⊢
          rcases this with rfl | rfl | rfl | rfl
          · exact ⟨j1, .inl rfl, rfl⟩
          · exact ⟨j2, .inr (.inl rfl), rfl⟩
          · exact ⟨c, .inr (.inr (.inl rfl)), rfl⟩
          · exact ⟨l, .inr (.inr (.inr rfl)), rfl⟩
        obtain ⟨zs, ej⟩ := lj j hj
        refine ⟨.ref j, rfl, .inl ⟨rfl, _, SqL.of ej⟩, j, zs, rfl, rfl, ej, fun b o nb eb => ?_, fun k hk => ?_, _, rfl⟩
        · rw [upd_ne (show b ≠ j from fun z => nb (by rw [z]; exact hj))]
          exact kx b o nb eb
        · by_cases z : k = j
          · rw [z]
            exact ⟨[], upd_same⟩
          · obtain ⟨zs', e'⟩ := lj k hk
            exact ⟨zs', by rw [upd_ne z]; exact e'⟩
      · rintro σ H19 ⟨kx, lj, y13', rfl⟩
        -- what stays: all that stood before found
        have nold : ∀ b o, Ha b = some o → b ∉ [j1, j2, c, l] := fun b o e z => by
          simp only [List.mem_cons, List.not_mem_nil, or_false] at z
          rcases z with rfl | rfl | rfl | rfl
          · rw [nj1] at e
            cases e
          · rw [nj2] at e
            cases e
          · rw [nc] at e
            cases e
          · rw [nl] at e
            cases e
        have s19 : Same Ha H19 := fun b o e => kx b o (nold b o e) (t18 _ _ (s14 _ _ (s13 _ _ e)))
        have nnew : ∀ b, H13 b = none → b ∉ [j1, j2, c, l] := fun b e z => by
          simp only [List.mem_cons, List.not_mem_nil, or_false] at z
          rcases z with rfl | rfl | rfl | rfl
          · rw [P1.choose_spec.1] at e
            cases e
          · rw [P2.choose_spec.1] at e
            cases e
          · rw [P3.choose_spec.1] at e
            cases e
          · rw [P4.choose_spec.1] at e
            cases e
        have P1i := kx.lp LsJ (nnew _ nj1') P1h
        have P2i := kx.lp LsJ (nnew _ nj2') P2h
        have P3i := kx.lp LsJ (nnew _ nc') P3h
        have P4i := kx.ls LsJ (nnew _ nl') P4h
        have ep19' := kx _ _ (nnew _ np') ep18'
        have t19 := sa.trans s19
        -- handed as ever
        refine ⟨.ref D3, rfl, ?_⟩
        refine ⟨.ref pr, rfl, pr, rfl, ⟨_, SqL.of (t19 _ _ epr)⟩, fun D5 hDD5 => ?_⟩
        refine lc_list (K := K) (a := pr) (xs := [V.ref q0, .ref q1, .ref q2]) (fun i H' => Same H19 H' ∧ ∃ hs : List Addr, hs.length = i ∧ H' D5 = some (.lst (hs.map V.ref)) ∧ ∀ (k : Nat) (h : Addr), hs[k]? = some h → ∃ q : Addr × List V, ([(q0, xs0), (q1, xs1), (q2, xs2)] : List (Addr × List V))[k]? = some q ∧ H' h = some (hO kind q.2) ∧ h ≠ D5) ⟨same_upd hDD5, [], rfl, upd_same, fun k h z => by simp at z⟩ (fun i H' _ pv => SqL.of (pv.1 _ _ (t19 _ _ epr))) ?_ ?_
        · rintro i x H' hi ⟨s, hs, lh, eD, hh⟩
          obtain ⟨q, hq, rfl, eq⟩ : ∃ q : Addr × List V, ([(q0, xs0), (q1, xs1), (q2, xs2)] : List (Addr × List V))[i]? = some q ∧ x = .ref q.1 ∧ H19 q.1 = some (.lst q.2) := by
            have hi3 : i < 3 := (List.getElem?_eq_some_iff.mp hi).1
            have : i = 0 ∨ i = 1 ∨ i = 2 := by omega
            rcases this with rfl | rfl | rfl
            · cases hi
              exact ⟨_, rfl, rfl, t19 _ _ eq0⟩
            · cases hi
              exact ⟨_, rfl, rfl, t19 _ _ eq1⟩
            · cases hi
              exact ⟨_, rfl, rfl, t19 _ _ eq2⟩
          have hi3 : i < 3 := (List.getElem?_eq_some_iff.mp hi).1
          refine ⟨rfl, .ref q.1, rfl, .int kind, rfl, q.1, kind, q.2, rfl, s _ _ eq, fun h' H'' nh sh eh => ?_⟩
          have nhD : h' ≠ D5 := fun z => by
            rw [z, eD] at nh
            cases nh
          refine ⟨_, sh _ _ eD, by rw [List.length_map]; exact szlt (by omega), same_mut (s.trans sh) hDD5, hs ++ [h'], by rw [List.length_append, lh]; rfl, by rw [upd_same, List.map_append]; rfl, fun k h2 hk => ?_⟩
          by_cases hk2 : k < hs.length
          · rw [List.getElem?_append_left hk2] at hk
            obtain ⟨q', a1, a2, a3⟩ := hh k h2 hk
            exact ⟨q', a1, by rw [upd_ne a3]; exact sh _ _ a2, a3⟩
          · rw [List.getElem?_append_right (by omega)] at hk
            have hk0 : k - hs.length = 0 := by
              have := (List.getElem?_eq_some_iff.mp hk).1
              simp only [List.length_cons, List.length_nil] at this
              omega
            rw [hk0] at hk
            cases hk
            refine ⟨q, ?_, by rw [upd_ne nhD]; exact eh, nhD⟩
            rw [show k = i by omega]
            exact hq
        rintro Hb ⟨sb, hsb, lhb, eDb, hhb⟩
        obtain ⟨ub0, ub1, ub2, rfl⟩ : ∃ a b c, hsb = [a, b, c] := match hsb, lhb with
          | [a, b, c], _ => ⟨a, b, c, rfl⟩
        obtain ⟨_, z, eub0, _⟩ := hhb 0 _ rfl
        cases z
        obtain ⟨_, z, eub1, _⟩ := hhb 1 _ rfl
        cases z
        obtain ⟨_, z, eub2, _⟩ := hhb 2 _ rfl
        cases z
        have DP : ∀ {Hx : Hp} {d u0 u1 u2 : Addr}, Same H12 Hx → Hx d = some (.lst ([u0, u1, u2].map V.ref)) → Hx u0 = some (hO kind xs0) → Hx u1 = some (hO kind xs1) → Hx u2 = some (hO kind xs2) → Dp K Hx (.ref d) (.list [hDt kind ((partsF (sgF cs far) A).map ptd), hDt kind ((partsF (sgF ds far) B).map ptd), hDt kind ((R.map iv).map sd)]) := fun ss ed e0 e1 e2 =>
          .lst (SqL.of ed) (.cons (hO_dp e0 (dp_pts (pt2s_mono ss hx0))) (.cons (hO_dp e1 (dp_pts (pt2s_mono ss hx1))) (.cons (hO_dp e2 (dp_sps (ps2s_mono ss hx2))) .nil)))
        have SH := shaped_hand (kind := kind) (rs := R.map iv) (asc_partsF af A) (asc_partsF ag B)
        have tb := s19.trans sb
        have uD := sa.trans tb
        refine ne_same (DP uD (tb _ _ eDa) (tb _ _ eua0) (tb _ _ eua1) (tb _ _ eua2)) (DP uD eDb eub0 eub1 eub2) SH ⟨false, rfl, ?_⟩
        refine ⟨.ref D3, rfl, D3, ua0, ua1, ua2, sgF cs far, sgF ds far, A, B, R, far, rfl, tb _ _ eDa, ip0.mono tb, ip1.mono tb, ip2.mono tb, rowA, rowB, cR, by omega, fun g1 v1 v2 v3 v4 U2 H20 s20 _ _ _ _ _ _ _ _ _ cU2 vU2 eg1 G1 G2 G3 G4 => ?_⟩
        rw [can_eq U2 U cU2 cU fun x => (vU2 x).trans (vU x).symm] at G1 G2
        have sb20 := sb.trans s20
        refine ⟨.ref p', rfl, ne_same (dp_four eg1 G1 G2 G3 G4) (dp_four (sb20 _ _ ep19') (P1i.mono sb20) (P2i.mono sb20) (P3i.mono sb20) (P4i.mono sb20)) (shaped_four a1 a2 a3) ⟨false, rfl, ?_⟩⟩
        have tc := tb.trans s20
        -- weights
        have w0 : atI ([ua0, ua1, ua2].map V.ref) 0 = some (.ref ua0) := rfl
        have w1 : atI ([ua0, ua1, ua2].map V.ref) 1 = some (.ref ua1) := rfl
        refine ⟨.ref D3, rfl, D3, _, 0, _, rfl, rfl, SqL.of (tc _ _ eDa), w0, weight_of rfl (ip0.mono tc) rowA fun H21 s21 => ?_⟩
        have td := tc.trans s21
        refine ⟨.ref D3, rfl, D3, _, 1, _, rfl, rfl, SqL.of (td _ _ eDa), w1, weight_of rfl (ip1.mono td) rowB fun H22 s22 => ⟨(by show 2 ≤ sizeLine; decide), fun hv hhv => ?_⟩⟩
        rw [count_len cA vA, count_len cB vB]
        have s23 := same_upd (o := .lst [V.int ((b0.count true : Nat) : Int), V.int ((b1.count true : Nat) : Int)]) hhv
        have te := (td.trans s22).trans s23
        have ehv : (upd H22 hv (.lst [V.int ((b0.count true : Nat) : Int), V.int ((b1.count true : Nat) : Int)])) hv = some (.lst [V.int ((b0.count true : Nat) : Int), V.int ((b1.count true : Nat) : Int)]) := upd_same
        generalize upd H22 hv (.lst [V.int ((b0.count true : Nat) : Int), V.int ((b1.count true : Nat) : Int)]) = H23 at *
        refine ⟨.ref hv, rfl, hv, rfl, ⟨_, SqL.of ehv⟩, fun D6 hD6 => ?_⟩
        refine lc_list (K := K) (a := hv) (xs := ([((b0.count true : Nat) : Int), ((b1.count true : Nat) : Int)] : List Int).map V.int) (fun i H' => Same H23 H' ∧ H' D6 = some (.lst [])) ⟨same_upd hD6, upd_same⟩ (fun i H' _ pv => SqL.of (pv.1 _ _ ehv)) ?_ ?_
        · rintro i x H' hi ⟨s, eD6⟩
          obtain ⟨k, rfl⟩ := int_at hi
          exact ⟨rfl, .int k, rfl, .int k, .ty "int", _, _, true, rfl, .ty "int", .base (.int k), kit2 (by decide +kernel), true, rfl, .int k, rfl, .int k, .ty "bool", _, _, false, rfl, .ty "bool", .base (.int k), kit2 (by decide +kernel), false, rfl, s, eD6⟩
        rintro H24 ⟨s24, eD6⟩
        refine ⟨Nat.zero_le _, fun e2 he2 => ?_⟩
        have s25 := same_upd (o := .lst []) he2
        refine ne_same (d := .list []) (.lst (SqL.of (s25 _ _ eD6)) .nil) (.lst (SqL.of upd_same) .nil) (by decide) ⟨false, rfl, ?_⟩
        have s2425 := s24.trans s25
        generalize upd H24 e2 (.lst []) = H25 at *
        have tf := te.trans s2425
        have tg := t12.trans (sa.trans tf)
        refine ⟨.ref hv, rfl, .ref D2, rfl, D2, _, 0, _, rfl, rfl, SqL.of (tg _ _ eD28), i0, .inl ⟨rfl, _, SqL.of (tg _ _ ez08)⟩, z0, b0, true, rfl, rfl, SqL.of (tg _ _ ez08), .ref D2, rfl, D2, _, 1, _, rfl, rfl, SqL.of (tg _ _ eD28), i1, .inl ⟨rfl, _, SqL.of (tg _ _ ez18)⟩, z1, b1, true, rfl, rfl, SqL.of (tg _ _ ez18), (by show 2 ≤ sizeLine; decide), fun e3 he3 => ?_⟩
        have s26 := same_upd (o := .lst [.int ((b0.count true : Nat) : Int), .int ((b1.count true : Nat) : Int)]) he3
        refine ne_same (d := .list [.int ((b0.count true : Nat) : Int), .int ((b1.count true : Nat) : Int)]) (.lst (SqL.of (s26 _ _ (s2425 _ _ ehv))) (.cons (.int _) (.cons (.int _) .nil))) (.lst (SqL.of upd_same) (.cons (.int _) (.cons (.int _) .nil))) (by simp [SeqAt.shaped, PyData.canLay0, PyData.canLayAll0, PyData.depth, PyData.depthAll]) ⟨false, rfl, ?_⟩
        have th := tf.trans s26
        generalize upd H25 e3 (.lst [.int ((b0.count true : Nat) : Int), .int ((b1.count true : Nat) : Int)]) = H26 at *
        have ti := sa.trans th
        refine ⟨.ref D3, rfl, ?_⟩
        refine ⟨.ref pr, rfl, pr, rfl, ⟨_, SqL.of (ti _ _ epr)⟩, fun D7 hDD7 => ?_⟩
        refine lc_list (K := K) (a := pr) (xs := [V.ref q0, .ref q1, .ref q2]) (fun i H' => Same H26 H' ∧ ∃ hs : List Addr, hs.length = i ∧ H' D7 = some (.lst (hs.map V.ref)) ∧ ∀ (k : Nat) (h : Addr), hs[k]? = some h → ∃ q : Addr × List V, ([(q0, xs0), (q1, xs1), (q2, xs2)] : List (Addr × List V))[k]? = some q ∧ H' h = some (hO kind q.2) ∧ h ≠ D7) ⟨same_upd hDD7, [], rfl, upd_same, fun k h z => by simp at z⟩ (fun i H' _ pv => SqL.of (pv.1 _ _ (ti _ _ epr))) ?_ ?_
        · rintro i x H' hi ⟨s, hs, lh, eD, hh⟩
          obtain ⟨q, hq, rfl, eq⟩ : ∃ q : Addr × List V, ([(q0, xs0), (q1, xs1), (q2, xs2)] : List (Addr × List V))[i]? = some q ∧ x = .ref q.1 ∧ H26 q.1 = some (.lst q.2) := by
            have hi3 : i < 3 := (List.getElem?_eq_some_iff.mp hi).1
            have : i = 0 ∨ i = 1 ∨ i = 2 := by omega
            rcases this with rfl | rfl | rfl
            · cases hi
              exact ⟨_, rfl, rfl, ti _ _ eq0⟩
            · cases hi
              exact ⟨_, rfl, rfl, ti _ _ eq1⟩
            · cases hi
              exact ⟨_, rfl, rfl, ti _ _ eq2⟩
          have hi3 : i < 3 := (List.getElem?_eq_some_iff.mp hi).1
          refine ⟨rfl, .ref q.1, rfl, .int kind, rfl, q.1, kind, q.2, rfl, s _ _ eq, fun h' H'' nh sh eh => ?_⟩
          have nhD : h' ≠ D7 := fun z => by
            rw [z, eD] at nh
            cases nh
          refine ⟨_, sh _ _ eD, by rw [List.length_map]; exact szlt (by omega), same_mut (s.trans sh) hDD7, hs ++ [h'], by rw [List.length_append, lh]; rfl, by rw [upd_same, List.map_append]; rfl, fun k h2 hk => ?_⟩
          by_cases hk2 : k < hs.length
          · rw [List.getElem?_append_left hk2] at hk
            obtain ⟨q', a1, a2, a3⟩ := hh k h2 hk
            exact ⟨q', a1, by rw [upd_ne a3]; exact sh _ _ a2, a3⟩
          · rw [List.getElem?_append_right (by omega)] at hk
            have hk0 : k - hs.length = 0 := by
              have := (List.getElem?_eq_some_iff.mp hk).1
              simp only [List.length_cons, List.length_nil] at this
              omega
            rw [hk0] at hk
            cases hk
            refine ⟨q, ?_, by rw [upd_ne nhD]; exact eh, nhD⟩
            rw [show k = i by omega]
            exact hq
        rintro Hc ⟨sc', hsc, lhc, eDc, hhc⟩
        obtain ⟨uc0, uc1, uc2, rfl⟩ : ∃ a b c, hsc = [a, b, c] := match hsc, lhc with
          | [a, b, c], _ => ⟨a, b, c, rfl⟩
        obtain ⟨_, z, euc0, _⟩ := hhc 0 _ rfl
        cases z
        obtain ⟨_, z, euc1, _⟩ := hhc 1 _ rfl
        cases z
        obtain ⟨_, z, euc2, _⟩ := hhc 2 _ rfl
        cases z
        have tj := th.trans sc'
        refine ne_same (DP (ti.trans sc') (tj _ _ eDa) (tj _ _ eua0) (tj _ _ eua1) (tj _ _ eua2)) (DP (ti.trans sc') eDc euc0 euc1 euc2) SH ⟨false, rfl, ?_⟩
        exact ⟨(t12.trans (ti.trans sc')) _ _ e38, _, _, _, _, _, _, _, _, _, _, _, _, _, _, rfl⟩
    · rintro σ H1 ⟨e3, y1, y2, y3, y4, y5, y6, y7, y8, y9, y10, y11, y12, y13, y14, rfl⟩
      exact q _
end
end My
namespace My
open PySem PySem.Spec PyProof.Rows L2 TL
theorem all_mk {l : PySem.W.OpenLaw} {w : World} {K : PySem.W.Frag} {h : Heap} {mg : Str → Option Value} {fa : Addr} (X : K.In h) (G : h.Ns mainGlobals mg) (hfa : mg "law" = some (.ref fa))
    {f0 : Addr} {od0 an0 : Option Addr} {sl0 : Array (Option Value)} {oc0 kV0 dc0 pm0 cd0 ct0 : Value}
    (a0 : PySem.W.nsIn K mainGlobals "weight" = some (some (.ref f0)))
    (l0 : K.lookup f0 = some ⟨oc0, od0, .func (PySem.W.fnOf "weight" "weight" (defArgs s_weight) (defBody s_weight) (defScope s_weight) .none kV0 dc0 pm0 an0 cd0 ct0), sl0⟩) (c0 : PySem.W.codeIn K cd0 "weight" = true) (k0 : PySem.W.keepIn K (.ref f0) = true)
    {f1 : Addr} {od1 an1 : Option Addr} {sl1 : Array (Option Value)} {oc1 kV1 dc1 pm1 cd1 ct1 : Value}
    (a1 : PySem.W.nsIn K mainGlobals "told_by" = some (some (.ref f1)))
    (l1 : K.lookup f1 = some ⟨oc1, od1, .func (PySem.W.fnOf "told_by" "told_by" (defArgs s_told_by) (defBody s_told_by) (defScope s_told_by) .none kV1 dc1 pm1 an1 cd1 ct1), sl1⟩) (c1 : PySem.W.codeIn K cd1 "told_by" = true) (k1 : PySem.W.keepIn K (.ref f1) = true)
    {f2 : Addr} {od2 an2 : Option Addr} {sl2 : Array (Option Value)} {oc2 kV2 dc2 pm2 cd2 ct2 : Value}
    (a2 : PySem.W.nsIn K mainGlobals "untold_by" = some (some (.ref f2)))
    (l2 : K.lookup f2 = some ⟨oc2, od2, .func (PySem.W.fnOf "untold_by" "untold_by" (defArgs s_untold_by) (defBody s_untold_by) (defScope s_untold_by) .none kV2 dc2 pm2 an2 cd2 ct2), sl2⟩) (c2 : PySem.W.codeIn K cd2 "untold_by" = true) (k2 : PySem.W.keepIn K (.ref f2) = true)
    {f3 : Addr} {od3 an3 : Option Addr} {sl3 : Array (Option Value)} {oc3 kV3 dc3 pm3 cd3 ct3 : Value}
    (a3 : PySem.W.nsIn K mainGlobals "meetings" = some (some (.ref f3)))
    (l3 : K.lookup f3 = some ⟨oc3, od3, .func (PySem.W.fnOf "meetings" "meetings" (defArgs s_meetings) (defBody s_meetings) (defScope s_meetings) .none kV3 dc3 pm3 an3 cd3 ct3), sl3⟩) (c3 : PySem.W.codeIn K cd3 "meetings" = true) (k3 : PySem.W.keepIn K (.ref f3) = true)
    {f4 : Addr} {od4 an4 : Option Addr} {sl4 : Array (Option Value)} {oc4 kV4 dc4 pm4 cd4 ct4 : Value}
    (a4 : PySem.W.nsIn K mainGlobals "lacking" = some (some (.ref f4)))
    (l4 : K.lookup f4 = some ⟨oc4, od4, .func (PySem.W.fnOf "lacking" "lacking" (defArgs s_lacking) (defBody s_lacking) (defScope s_lacking) .none kV4 dc4 pm4 an4 cd4 ct4), sl4⟩) (c4 : PySem.W.codeIn K cd4 "lacking" = true) (k4 : PySem.W.keepIn K (.ref f4) = true)
    {f5 : Addr} {od5 an5 : Option Addr} {sl5 : Array (Option Value)} {oc5 kV5 dc5 pm5 cd5 ct5 : Value}
    (a5 : PySem.W.nsIn K mainGlobals "cut" = some (some (.ref f5)))
    (l5 : K.lookup f5 = some ⟨oc5, od5, .func (PySem.W.fnOf "cut" "cut" (defArgs s_cut) (defBody s_cut) (defScope s_cut) .none kV5 dc5 pm5 an5 cd5 ct5), sl5⟩) (c5 : PySem.W.codeIn K cd5 "cut" = true) (k5 : PySem.W.keepIn K (.ref f5) = true)
    {f6 : Addr} {od6 an6 : Option Addr} {sl6 : Array (Option Value)} {oc6 kV6 dc6 pm6 cd6 ct6 : Value}
    (a6 : PySem.W.nsIn K mainGlobals "joined" = some (some (.ref f6)))
    (l6 : K.lookup f6 = some ⟨oc6, od6, .func (PySem.W.fnOf "joined" "joined" (defArgs s_joined) (defBody s_joined) (defScope s_joined) .none kV6 dc6 pm6 an6 cd6 ct6), sl6⟩) (c6 : PySem.W.codeIn K cd6 "joined" = true) (k6 : PySem.W.keepIn K (.ref f6) = true)
    {f7 : Addr} {od7 an7 : Option Addr} {sl7 : Array (Option Value)} {oc7 kV7 dc7 pm7 cd7 ct7 : Value}
    (a7 : PySem.W.nsIn K mainGlobals "_law_well" = some (some (.ref f7)))
    (l7 : K.lookup f7 = some ⟨oc7, od7, .func (PySem.W.fnOf "_law_well" "_law_well" (defArgs s_law_well) (defBody s_law_well) (defScope s_law_well) .none kV7 dc7 pm7 an7 cd7 ct7), sl7⟩) (c7 : PySem.W.codeIn K cd7 "_law_well" = true) (k7 : PySem.W.keepIn K (.ref f7) = true)
    {f8 : Addr} {od8 an8 : Option Addr} {sl8 : Array (Option Value)} {oc8 kV8 dc8 pm8 cd8 ct8 : Value}
    (a8 : PySem.W.nsIn K mainGlobals "_law_draw" = some (some (.ref f8)))
    (l8 : K.lookup f8 = some ⟨oc8, od8, .func (PySem.W.fnOf "_law_draw" "_law_draw" (defArgs s_law_draw) (defBody s_law_draw) (defScope s_law_draw) .none kV8 dc8 pm8 an8 cd8 ct8), sl8⟩) (c8 : PySem.W.codeIn K cd8 "_law_draw" = true) (k8 : PySem.W.keepIn K (.ref f8) = true)
    {f9 : Addr} {od9 an9 : Option Addr} {sl9 : Array (Option Value)} {oc9 kV9 dc9 pm9 cd9 ct9 : Value}
    (a9 : PySem.W.nsIn K mainGlobals "_law_great" = some (some (.ref f9)))
    (l9 : K.lookup f9 = some ⟨oc9, od9, .func (PySem.W.fnOf "_law_great" "_law_great" (defArgs s_law_great) (defBody s_law_great) (defScope s_law_great) .none kV9 dc9 pm9 an9 cd9 ct9), sl9⟩) (c9 : PySem.W.codeIn K cd9 "_law_great" = true) (k9 : PySem.W.keepIn K (.ref f9) = true)
    {f10 : Addr} {od10 an10 : Option Addr} {sl10 : Array (Option Value)} {oc10 kV10 dc10 pm10 cd10 ct10 : Value}
    (a10 : PySem.W.nsIn K mainGlobals "_law_truths" = some (some (.ref f10)))
    (l10 : K.lookup f10 = some ⟨oc10, od10, .func (PySem.W.fnOf "_law_truths" "_law_truths" (defArgs s_law_truths) (defBody s_law_truths) (defScope s_law_truths) .none kV10 dc10 pm10 an10 cd10 ct10), sl10⟩) (c10 : PySem.W.codeIn K cd10 "_law_truths" = true) (k10 : PySem.W.keepIn K (.ref f10) = true)
    {f11 : Addr} {od11 an11 : Option Addr} {sl11 : Array (Option Value)} {oc11 kV11 dc11 pm11 cd11 ct11 : Value}
    (a11 : PySem.W.nsIn K mainGlobals "_law_any_signs" = some (some (.ref f11)))
    (l11 : K.lookup f11 = some ⟨oc11, od11, .func (PySem.W.fnOf "_law_any_signs" "_law_any_signs" (defArgs s_law_any_signs) (defBody s_law_any_signs) (defScope s_law_any_signs) .none kV11 dc11 pm11 an11 cd11 ct11), sl11⟩) (c11 : PySem.W.codeIn K cd11 "_law_any_signs" = true) (k11 : PySem.W.keepIn K (.ref f11) = true)
    {f12 : Addr} {od12 an12 : Option Addr} {sl12 : Array (Option Value)} {oc12 kV12 dc12 pm12 cd12 ct12 : Value}
    (a12 : PySem.W.nsIn K mainGlobals "_law_parts" = some (some (.ref f12)))
    (l12 : K.lookup f12 = some ⟨oc12, od12, .func (PySem.W.fnOf "_law_parts" "_law_parts" (defArgs s_law_parts) (defBody s_law_parts) (defScope s_law_parts) .none kV12 dc12 pm12 an12 cd12 ct12), sl12⟩) (c12 : PySem.W.codeIn K cd12 "_law_parts" = true) (k12 : PySem.W.keepIn K (.ref f12) = true)
    {f13 : Addr} {od13 an13 : Option Addr} {sl13 : Array (Option Value)} {oc13 kV13 dc13 pm13 cd13 ct13 : Value}
    (a13 : PySem.W.nsIn K mainGlobals "_law_runs" = some (some (.ref f13)))
    (l13 : K.lookup f13 = some ⟨oc13, od13, .func (PySem.W.fnOf "_law_runs" "_law_runs" (defArgs s_law_runs) (defBody s_law_runs) (defScope s_law_runs) .none kV13 dc13 pm13 an13 cd13 ct13), sl13⟩) (c13 : PySem.W.codeIn K cd13 "_law_runs" = true) (k13 : PySem.W.keepIn K (.ref f13) = true)
    {f14 : Addr} {od14 an14 : Option Addr} {sl14 : Array (Option Value)} {oc14 kV14 dc14 pm14 cd14 ct14 : Value}
    (a14 : PySem.W.nsIn K mainGlobals "_law_is_parts" = some (some (.ref f14)))
    (l14 : K.lookup f14 = some ⟨oc14, od14, .func (PySem.W.fnOf "_law_is_parts" "_law_is_parts" (defArgs s_law_is_parts) (defBody s_law_is_parts) (defScope s_law_is_parts) .none kV14 dc14 pm14 an14 cd14 ct14), sl14⟩) (c14 : PySem.W.codeIn K cd14 "_law_is_parts" = true) (k14 : PySem.W.keepIn K (.ref f14) = true)
    {f15 : Addr} {od15 an15 : Option Addr} {sl15 : Array (Option Value)} {oc15 kV15 dc15 pm15 cd15 ct15 : Value}
    (a15 : PySem.W.nsIn K mainGlobals "_law_is_runs" = some (some (.ref f15)))
    (l15 : K.lookup f15 = some ⟨oc15, od15, .func (PySem.W.fnOf "_law_is_runs" "_law_is_runs" (defArgs s_law_is_runs) (defBody s_law_is_runs) (defScope s_law_is_runs) .none kV15 dc15 pm15 an15 cd15 ct15), sl15⟩) (c15 : PySem.W.codeIn K cd15 "_law_is_runs" = true) (k15 : PySem.W.keepIn K (.ref f15) = true)
    {f16 : Addr} {od16 an16 : Option Addr} {sl16 : Array (Option Value)} {oc16 kV16 dc16 pm16 cd16 ct16 : Value}
    (a16 : PySem.W.nsIn K mainGlobals "_law_handed" = some (some (.ref f16)))
    (l16 : K.lookup f16 = some ⟨oc16, od16, .func (PySem.W.fnOf "_law_handed" "_law_handed" (defArgs s_law_handed) (defBody s_law_handed) (defScope s_law_handed) .none kV16 dc16 pm16 an16 cd16 ct16), sl16⟩) (c16 : PySem.W.codeIn K cd16 "_law_handed" = true) (k16 : PySem.W.keepIn K (.ref f16) = true)
    {f17 : Addr} {od17 an17 : Option Addr} {sl17 : Array (Option Value)} {oc17 kV17 dc17 pm17 cd17 ct17 : Value}
    (a17 : PySem.W.nsIn K mainGlobals "_law_second" = some (some (.ref f17)))
    (l17 : K.lookup f17 = some ⟨oc17, od17, .func (PySem.W.fnOf "_law_second" "_law_second" (defArgs s_law_second) (defBody s_law_second) (defScope s_law_second) .none kV17 dc17 pm17 an17 cd17 ct17), sl17⟩) (c17 : PySem.W.codeIn K cd17 "_law_second" = true) (k17 : PySem.W.keepIn K (.ref f17) = true)
    {f18 : Addr} {od18 an18 : Option Addr} {sl18 : Array (Option Value)} {oc18 kV18 dc18 pm18 cd18 ct18 : Value}
    (a18 : PySem.W.nsIn K mainGlobals "_law_asked" = some (some (.ref f18)))
    (l18 : K.lookup f18 = some ⟨oc18, od18, .func (PySem.W.fnOf "_law_asked" "_law_asked" (defArgs s_law_asked) (defBody s_law_asked) (defScope s_law_asked) .none kV18 dc18 pm18 an18 cd18 ct18), sl18⟩) (c18 : PySem.W.codeIn K cd18 "_law_asked" = true) (k18 : PySem.W.keepIn K (.ref f18) = true)
    {f19 : Addr} {od19 an19 : Option Addr} {sl19 : Array (Option Value)} {oc19 kV19 dc19 pm19 cd19 ct19 : Value}
    (a19 : PySem.W.nsIn K mainGlobals "_law_due" = some (some (.ref f19)))
    (l19 : K.lookup f19 = some ⟨oc19, od19, .func (PySem.W.fnOf "_law_due" "_law_due" (defArgs s_law_due) (defBody s_law_due) (defScope s_law_due) .none kV19 dc19 pm19 an19 cd19 ct19), sl19⟩) (c19 : PySem.W.codeIn K cd19 "_law_due" = true) (k19 : PySem.W.keepIn K (.ref f19) = true)
    {f20 : Addr} {od20 an20 : Option Addr} {sl20 : Array (Option Value)} {oc20 kV20 dc20 pm20 cd20 ct20 : Value}
    (a20 : PySem.W.nsIn K mainGlobals "law" = some (some (.ref f20)))
    (l20 : K.lookup f20 = some ⟨oc20, od20, .func (PySem.W.fnOf "law" "law" (defArgs s_law) (defBody s_law) (defScope s_law) .none kV20 dc20 pm20 an20 cd20 ct20), sl20⟩) (c20 : PySem.W.codeIn K cd20 "law" = true) (k20 : PySem.W.keepIn K (.ref f20) = true)
    (z_bool : PySem.W.nsIn K mainGlobals "bool" = some none)
    (z_int : PySem.W.nsIn K mainGlobals "int" = some none)
    (z_isinstance : PySem.W.nsIn K mainGlobals "isinstance" = some none)
    (z_len : PySem.W.nsIn K mainGlobals "len" = some none)
    (z_list : PySem.W.nsIn K mainGlobals "list" = some none)
    (z_max : PySem.W.nsIn K mainGlobals "max" = some none)
    (z_min : PySem.W.nsIn K mainGlobals "min" = some none)
    (z_range : PySem.W.nsIn K mainGlobals "range" = some none)
    (z_sorted : PySem.W.nsIn K mainGlobals "sorted" = some none)
    (z_str : PySem.W.nsIn K mainGlobals "str" = some none)
    (z_sum : PySem.W.nsIn K mainGlobals "sum" = some none)
    (z_tuple : PySem.W.nsIn K mainGlobals "tuple" = some none)
    : ∃ fd : FuncData, (∀ (s : Shared) (v : Value), BindsTo s fd ⟨[v], []⟩ [("_law_script", v)]) ∧ ∀ base : Heap, K.In base → base.Ns mainGlobals mg → FnOk l.prog w K mg base CX0 6 fa fd ["_law_script"] (spLaw K) := by
  have e := hfa.symm.trans (PySem.W.mg_of X G a20)
  cases e
  have F0 := fun_mk (st := s_weight) l0 c0 k0
  have F1 := fun_mk (st := s_told_by) l1 c1 k1
  have F2 := fun_mk (st := s_untold_by) l2 c2 k2
  have F3 := fun_mk (st := s_meetings) l3 c3 k3
  have F4 := fun_mk (st := s_lacking) l4 c4 k4
  have F5 := fun_mk (st := s_cut) l5 c5 k5
  have F6 := fun_mk (st := s_joined) l6 c6 k6
  have F7 := fun_mk (st := s_law_well) l7 c7 k7
  have F8 := fun_mk (st := s_law_draw) l8 c8 k8
  have F9 := fun_mk (st := s_law_great) l9 c9 k9
  have F10 := fun_mk (st := s_law_truths) l10 c10 k10
  have F11 := fun_mk (st := s_law_any_signs) l11 c11 k11
  have F12 := fun_mk (st := s_law_parts) l12 c12 k12
  have F13 := fun_mk (st := s_law_runs) l13 c13 k13
  have F14 := fun_mk (st := s_law_is_parts) l14 c14 k14
  have F15 := fun_mk (st := s_law_is_runs) l15 c15 k15
  have F16 := fun_mk (st := s_law_handed) l16 c16 k16
  have F17 := fun_mk (st := s_law_second) l17 c17 k17
  have F18 := fun_mk (st := s_law_asked) l18 c18 k18
  have F19 := fun_mk (st := s_law_due) l19 c19 k19
  have F20 := fun_mk (st := s_law) l20 c20 k20
  let T : Txt K mg := {
    f_weight := f0, fd_weight := _, d_weight := ⟨F0, F0.binds (ps := ["parts"]) (fun _ _ _ _ _ _ us hl => match us, hl with | [_], _ => rfl), PySem.W.mg_of X G a0⟩,
    f_told_by := f1, fd_told_by := _, d_told_by := ⟨F1, F1.binds (ps := ["parts"]) (fun _ _ _ _ _ _ us hl => match us, hl with | [_], _ => rfl), PySem.W.mg_of X G a1⟩,
    f_untold_by := f2, fd_untold_by := _, d_untold_by := ⟨F2, F2.binds (ps := ["parts", "size"]) (fun _ _ _ _ _ _ us hl => match us, hl with | [_, _], _ => rfl), PySem.W.mg_of X G a2⟩,
    f_meetings := f3, fd_meetings := _, d_meetings := ⟨F3, F3.binds (ps := ["ones", "others"]) (fun _ _ _ _ _ _ us hl => match us, hl with | [_, _], _ => rfl), PySem.W.mg_of X G a3⟩,
    f_lacking := f4, fd_lacking := _, d_lacking := ⟨F4, F4.binds (ps := ["wanted", "parts"]) (fun _ _ _ _ _ _ us hl => match us, hl with | [_, _], _ => rfl), PySem.W.mg_of X G a4⟩,
    f_cut := f5, fd_cut := _, d_cut := ⟨F5, F5.binds (ps := ["parts", "wanted"]) (fun _ _ _ _ _ _ us hl => match us, hl with | [_, _], _ => rfl), PySem.W.mg_of X G a5⟩,
    f_joined := f6, fd_joined := _, d_joined := ⟨F6, F6.binds (ps := ["ones", "others"]) (fun _ _ _ _ _ _ us hl => match us, hl with | [_, _], _ => rfl), PySem.W.mg_of X G a6⟩,
    f_law_well := f7, fd_law_well := _, d_law_well := ⟨F7, F7.binds (ps := ["_law_cell"]) (fun _ _ _ _ _ _ us hl => match us, hl with | [_], _ => rfl), PySem.W.mg_of X G a7⟩,
    f_law_draw := f8, fd_law_draw := _, d_law_draw := ⟨F8, F8.binds (ps := ["_law_well_here", "_law_many"]) (fun _ _ _ _ _ _ us hl => match us, hl with | [_, _], _ => rfl), PySem.W.mg_of X G a8⟩,
    f_law_great := f9, fd_law_great := _, d_law_great := ⟨F9, F9.binds (ps := ["_law_well_here"]) (fun _ _ _ _ _ _ us hl => match us, hl with | [_], _ => rfl), PySem.W.mg_of X G a9⟩,
    f_law_truths := f10, fd_law_truths := _, d_law_truths := ⟨F10, F10.binds (ps := ["_law_well_here", "_law_many"]) (fun _ _ _ _ _ _ us hl => match us, hl with | [_, _], _ => rfl), PySem.W.mg_of X G a10⟩,
    f_law_any_signs := f11, fd_law_any_signs := _, d_law_any_signs := ⟨F11, F11.binds (ps := ["_law_well_here", "_law_many"]) (fun _ _ _ _ _ _ us hl => match us, hl with | [_, _], _ => rfl), PySem.W.mg_of X G a11⟩,
    f_law_parts := f12, fd_law_parts := _, d_law_parts := ⟨F12, F12.binds (ps := ["_law_signs", "_law_truths_here", "_law_far"]) (fun _ _ _ _ _ _ us hl => match us, hl with | [_, _, _], _ => rfl), PySem.W.mg_of X G a12⟩,
    f_law_runs := f13, fd_law_runs := _, d_law_runs := ⟨F13, F13.binds (ps := ["_law_truths_here", "_law_far"]) (fun _ _ _ _ _ _ us hl => match us, hl with | [_, _], _ => rfl), PySem.W.mg_of X G a13⟩,
    f_law_is_parts := f14, fd_law_is_parts := _, d_law_is_parts := ⟨F14, F14.binds (ps := ["_law_found"]) (fun _ _ _ _ _ _ us hl => match us, hl with | [_], _ => rfl), PySem.W.mg_of X G a14⟩,
    f_law_is_runs := f15, fd_law_is_runs := _, d_law_is_runs := ⟨F15, F15.binds (ps := ["_law_found"]) (fun _ _ _ _ _ _ us hl => match us, hl with | [_], _ => rfl), PySem.W.mg_of X G a15⟩,
    f_law_handed := f16, fd_law_handed := _, d_law_handed := ⟨F16, F16.binds (ps := ["_law_some", "_law_kind"]) (fun _ _ _ _ _ _ us hl => match us, hl with | [_, _], _ => rfl), PySem.W.mg_of X G a16⟩,
    f_law_second := f17, fd_law_second := _, d_law_second := ⟨F17, F17.binds (ps := ["_law_well_here", "_law_signs"]) (fun _ _ _ _ _ _ us hl => match us, hl with | [_, _], _ => rfl), PySem.W.mg_of X G a17⟩,
    f_law_asked := f18, fd_law_asked := _, d_law_asked := ⟨F18, F18.binds (ps := ["_law_handed_here"]) (fun _ _ _ _ _ _ us hl => match us, hl with | [_], _ => rfl), PySem.W.mg_of X G a18⟩,
    f_law_due := f19, fd_law_due := _, d_law_due := ⟨F19, F19.binds (ps := ["_law_has", "_law_first", "_law_second_here", "_law_far"]) (fun _ _ _ _ _ _ us hl => match us, hl with | [_, _, _, _], _ => rfl), PySem.W.mg_of X G a19⟩,
    f_law := fa, fd_law := _, d_law := ⟨F20, F20.binds (ps := ["_law_script"]) (fun _ _ _ _ _ _ us hl => match us, hl with | [_], _ => rfl), PySem.W.mg_of X G a20⟩,
    m_bool := PySem.W.mg_none_of X G z_bool,
    m_int := PySem.W.mg_none_of X G z_int,
    m_isinstance := PySem.W.mg_none_of X G z_isinstance,
    m_len := PySem.W.mg_none_of X G z_len,
    m_list := PySem.W.mg_none_of X G z_list,
    m_max := PySem.W.mg_none_of X G z_max,
    m_min := PySem.W.mg_none_of X G z_min,
    m_range := PySem.W.mg_none_of X G z_range,
    m_sorted := PySem.W.mg_none_of X G z_sorted,
    m_str := PySem.W.mg_none_of X G z_str,
    m_sum := PySem.W.mg_none_of X G z_sum,
    m_tuple := PySem.W.mg_none_of X G z_tuple
  }
  exact ⟨T.fd_law, fun s v => .of_eq rfl, fun base _ _ => ok_law T⟩
end My
open PySem PySem.W PyProof.Rows
set_option maxHeartbeats 0 in
theorem PySem.Challenge.cw_pagelodge_k06_parts_place_by_place_holds : PySem.Challenge.rw_pagelodge_k06_parts_place_by_place.Holds := by
  w_on; o_law; k_head; (case hw => w_witness2)
  k_fill
  refine L2.walk_of (l := PySem.Challenge.rw_pagelodge_k06_parts_place_by_place) (n := 63) (k := 6) (x := "_law_script") (CX := fun _ => L2.CX0) (sp := fun w => My.spLaw _) rfl (by decide) rfl ⟨rfl, by decide, by decide⟩ (fun w h Y => PySem.W.kIn_of Y) ?F (fun _ _ a ns hl _ hS => ⟨a, ns, rfl, hS, hl, fun _ => rfl⟩) (fun _ _ _ _ _ h => h)
  case F =>
    intro w mg fa h KX G hmg
    refine' My.all_mk KX G hmg ?a0 ?l0 ?c0 ?k0 ?a1 ?l1 ?c1 ?k1 ?a2 ?l2 ?c2 ?k2 ?a3 ?l3 ?c3 ?k3 ?a4 ?l4 ?c4 ?k4 ?a5 ?l5 ?c5 ?k5 ?a6 ?l6 ?c6 ?k6 ?a7 ?l7 ?c7 ?k7 ?a8 ?l8 ?c8 ?k8 ?a9 ?l9 ?c9 ?k9 ?a10 ?l10 ?c10 ?k10 ?a11 ?l11 ?c11 ?k11 ?a12 ?l12 ?c12 ?k12 ?a13 ?l13 ?c13 ?k13 ?a14 ?l14 ?c14 ?k14 ?a15 ?l15 ?c15 ?k15 ?a16 ?l16 ?c16 ?k16 ?a17 ?l17 ?c17 ?k17 ?a18 ?l18 ?c18 ?k18 ?a19 ?l19 ?c19 ?k19 ?a20 ?l20 ?c20 ?k20 ?z_bool ?z_int ?z_isinstance ?z_len ?z_list ?z_max ?z_min ?z_range ?z_sorted ?z_str ?z_sum ?z_tuple
    (case a0 => k_is)
    (case l0 => k_is)
    (case c0 => k_is)
    (case k0 => k_is)
    (case a1 => k_is)
    (case l1 => k_is)
    (case c1 => k_is)
    (case k1 => k_is)
    (case a2 => k_is)
    (case l2 => k_is)
    (case c2 => k_is)
    (case k2 => k_is)
    (case a3 => k_is)
    (case l3 => k_is)
    (case c3 => k_is)
    (case k3 => k_is)
    (case a4 => k_is)
    (case l4 => k_is)
    (case c4 => k_is)
    (case k4 => k_is)
    (case a5 => k_is)
    (case l5 => k_is)
    (case c5 => k_is)
    (case k5 => k_is)
    (case a6 => k_is)
    (case l6 => k_is)
    (case c6 => k_is)
    (case k6 => k_is)
    (case a7 => k_is)
    (case l7 => k_is)
    (case c7 => k_is)
    (case k7 => k_is)
    (case a8 => k_is)
    (case l8 => k_is)
    (case c8 => k_is)
    (case k8 => k_is)
    (case a9 => k_is)
    (case l9 => k_is)
    (case c9 => k_is)
    (case k9 => k_is)
    (case a10 => k_is)
    (case l10 => k_is)
    (case c10 => k_is)
    (case k10 => k_is)
    (case a11 => k_is)
    (case l11 => k_is)
    (case c11 => k_is)
    (case k11 => k_is)
    (case a12 => k_is)
    (case l12 => k_is)
    (case c12 => k_is)
    (case k12 => k_is)
    (case a13 => k_is)
    (case l13 => k_is)
    (case c13 => k_is)
    (case k13 => k_is)
    (case a14 => k_is)
    (case l14 => k_is)
    (case c14 => k_is)
    (case k14 => k_is)
    (case a15 => k_is)
    (case l15 => k_is)
    (case c15 => k_is)
    (case k15 => k_is)
    (case a16 => k_is)
    (case l16 => k_is)
    (case c16 => k_is)
    (case k16 => k_is)
    (case a17 => k_is)
    (case l17 => k_is)
    (case c17 => k_is)
    (case k17 => k_is)
    (case a18 => k_is)
    (case l18 => k_is)
    (case c18 => k_is)
    (case k18 => k_is)
    (case a19 => k_is)
    (case l19 => k_is)
    (case c19 => k_is)
    (case k19 => k_is)
    (case a20 => k_is)
    (case l20 => k_is)
    (case c20 => k_is)
    (case k20 => k_is)
    (case z_bool => k_is)
    (case z_int => k_is)
    (case z_isinstance => k_is)
    (case z_len => k_is)
    (case z_list => k_is)
    (case z_max => k_is)
    (case z_min => k_is)
    (case z_range => k_is)
    (case z_sorted => k_is)
    (case z_str => k_is)
    (case z_sum => k_is)
    (case z_tuple => k_is)
