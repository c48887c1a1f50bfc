import PyProof.Rows.All
import Wide.All
import OpenK.AllK
import Wide.FinOn
import HandS.ForMost
import HandS.IsInst
import HandS.Walk
import HandS.Style
import HandS.Evl
import KE.SortData
import HandS.MakeKwOnly
import HandS.TryOnly
import PySem.Challenge.RW_pagelodge_k16_the_word_of_an_age
set_option Elab.async false
set_option linter.all false
set_option maxRecDepth 100000
set_option maxHeartbeats 4000000
namespace My
open PySem PySem.Spec PyProof.Rows L2 TL
/-- xs == [], xs != []: items of any kind -/
def rEqNil (K : PySem.W.Frag) : R2 := fun x y H Q => ∃ p q xs, x = .ref p ∧ y = .ref q ∧ SqL K H p xs ∧ SqL K H q [] ∧ Q (.bl xs.isEmpty) H
section
variable {X : Cx}
theorem op_eqNil (hu : X.A.units + 64 < cLine) : OpR X (compareOp .Eq) (rEqNil X.K) := by
  intro pins s σ H x y v u Q I rx ry h
  obtain ⟨p, q, xs, rfl, rfl, h1, h2, k⟩ := h
  obtain ⟨its, rv, hl, _⟩ := I.list h1
  obtain ⟨its2, rv2, hl2, _⟩ := I.list h2
  cases (show v = Value.ref p from rx)
  cases (show u = Value.ref q from ry)
  cases rv2
  cases rv with
  | nil => exact SeqAt.eq_listAt (e := fun _ => true) hl.isList hl2.isList rfl (by omega) (fun j h1 _ => absurd h1 (by simp)) ⟨.bl true, H, I, rfl, k⟩
  | cons a b => exact SeqAt.eq_list_lengthsAt hl.isList hl2.isList (by simp) (by omega) ⟨.bl false, H, I, rfl, k⟩
end
/-! ### heaps that change at the well alone -/
def W3 (a b c : Int) : HO := .lst [.int a, .int b, .int c]
def IsW (H : Hp) (W : Addr) : Prop := ∃ a b c, H W = some (W3 a b c)
structure Wx (W : Addr) (H H' : Hp) : Prop where
  keep : ∀ b o, b ≠ W → H b = some o → H' b = some o
  well : IsW H' W
theorem Wx.refl {W : Addr} {H : Hp} (h : IsW H W) : Wx W H H := ⟨fun _ _ _ e => e, h⟩
theorem Wx.trans {W : Addr} {H H1 H2 : Hp} (a : Wx W H H1) (b : Wx W H1 H2) : Wx W H H2 := ⟨fun c o n e => b.keep c o n (a.keep c o n e), b.well⟩
theorem Wx.free {W : Addr} {H H' : Hp} (e : Wx W H H') {p : Addr} (h : H' p = none) : H p = none := by
  cases q : H p with
  | none => rfl
  | some o =>
    by_cases hp : p = W
    · obtain ⟨a, b, c, hw⟩ := e.well
      rw [hp, hw] at h
      cases h
    · rw [e.keep p o hp q] at h
      cases h
theorem Wx.new {W : Addr} {H H' : Hp} (e : Wx W H H') {p : Addr} {o : HO} (h : H' p = none) : Wx W H (upd H' p o) := by
  obtain ⟨k, a, b, c, hw⟩ := e
  refine ⟨fun d u n q => ?_, a, b, c, ?_⟩
  · rw [upd_ne (ne_of_none (k d u n q) h)]
    exact k d u n q
  · rw [upd_ne (ne_of_none hw h)]
    exact hw
theorem Wx.set {W : Addr} {H H' : Hp} (e : Wx W H H') (a b c : Int) : Wx W H (upd H' W (W3 a b c)) := by
  refine ⟨fun d u n q => ?_, a, b, c, upd_same⟩
  rw [upd_ne n]
  exact e.keep d u n q
theorem IsW.ne {H : Hp} {W p : Addr} (h : IsW H W) (hp : H p = none) : W ≠ p := by
  obtain ⟨a, b, c, hw⟩ := h
  exact ne_of_none hw hp
theorem Wx.same {W : Addr} {H H1 H2 : Hp} (a : Wx W H H1) (b : Same H1 H2) : Wx W H H2 := by
  obtain ⟨k, x, y, z, hw⟩ := a
  exact ⟨fun c o n e => b c o (k c o n e), x, y, z, b _ _ hw⟩
/-- a list (other than the well) that is made here may change -/
theorem Wx.mut {W : Addr} {H H' : Hp} (e : Wx W H H') {p : Addr} {o : HO} (h : H p = none) (n : W ≠ p) : Wx W H (upd H' p o) := by
  obtain ⟨k, a, b, c, hw⟩ := e
  refine ⟨fun d u m q => ?_, a, b, c, ?_⟩
  · rw [upd_ne (ne_of_none q h)]
    exact k d u m q
  · rw [upd_ne n]
    exact hw
def spWell : Sp := fun vs H Q _ => ∃ n : Int, vs = [.int n] ∧ ∀ p a b c, H p = none → Q (.ref p) (upd H p (W3 a b c))
def spDraw : Sp := fun vs H Q _ => ∃ (W : Addr) (m : Int), vs = [.ref W, .int m] ∧ 0 < m ∧ m < 1073741824 ∧ IsW H W ∧ ∀ r H', 0 ≤ r → r < m → Wx W H H' → Q (.int r) H'
theorem mod_lt {n m : Int} (h : 0 < m) : 0 ≤ n % m ∧ n % m < m := ⟨Int.emod_nonneg n (by omega), Int.emod_lt_of_pos n h⟩
theorem cmul_of {i j : Int} (h : 0 ≤ i ∧ i < 2147483647) : CMul i j := .inl (by omega)
/-! ### texts and lists -/
theorem atI_in {α : Type} {xs : List α} {r : Int} (h0 : 0 ≤ r) (h1 : r < xs.length) : ∃ c, c ∈ xs ∧ atI xs r = some c := by
  obtain ⟨n, rfl⟩ : ∃ n : Nat, r = n := ⟨r.toNat, by omega⟩
  have hn : n < xs.length := by omega
  exact ⟨xs[n], List.getElem_mem hn, atI_nat (List.getElem?_eq_getElem hn)⟩
theorem len_tl (z : Str) : z.cps.toList.length = z.length := Array.length_toList
theorem joinL_one : ∀ t : List Nat, joinL [] (t.map fun c => [c]) = t
  | [] => rfl
  | [c] => rfl
  | c :: d :: r => by
    show [c] ++ ([] ++ joinL [] ((d :: r).map fun c => [c])) = c :: d :: r
    rw [joinL_one (d :: r)]
    rfl
theorem join_signs (y : Str) (hy : y.cps.toList = []) (t : List Nat) : Txt.join y (t.map fun c => (⟨#[c]⟩ : Str)) = ⟨t.toArray⟩ := by
  have e : tl (Txt.join y (t.map fun c => (⟨#[c]⟩ : Str))) = t := by
    rw [join_eq, tl_join, List.map_map]
    show joinL (y.cps.toList) (t.map fun c => [c]) = t
    rw [hy, joinL_one]
  rw [← mk_tl (Txt.join y (t.map fun c => (⟨#[c]⟩ : Str))), e]
theorem joinL_len (S : List Nat) : ∀ ps : List (List Nat), (joinL S ps).length ≤ (ps.map List.length).sum + ps.length * S.length
  | [] => Nat.zero_le _
  | [p] => by
    show p.length ≤ p.length + 0 + 1 * S.length
    omega
  | p :: q :: r => by
    have ih := joinL_len S (q :: r)
    show (p ++ (S ++ joinL S (q :: r))).length ≤ p.length + ((q :: r).map List.length).sum + ((q :: r).length + 1) * S.length
    rw [List.length_append, List.length_append, Nat.add_mul]
    omega
theorem join_len (y : Str) (ps : List Str) : (Txt.join y ps).length ≤ (ps.map (·.length)).sum + ps.length * y.length := by
  have h := joinL_len (tl y) (ps.map tl)
  rw [← tl_join, ← join_eq, List.map_map, List.length_map] at h
  have e : (ps.map (List.length ∘ tl)) = ps.map (·.length) := List.map_congr_left fun z _ => len_tl z
  rw [e] at h
  have e2 : (tl (Txt.join y ps)).length = (Txt.join y ps).length := len_tl _
  have e3 : (tl y).length = y.length := len_tl _
  rw [e2, e3] at h
  exact h
theorem sum_ones (t : List Nat) : ((t.map fun c => (⟨#[c]⟩ : Str)).map (·.length)).sum = t.length := by
  induction t with
  | nil => rfl
  | cons c r ih =>
    show 1 + ((r.map fun c => (⟨#[c]⟩ : Str)).map (·.length)).sum = r.length + 1
    rw [ih]
    omega
theorem sum_le {b : Nat} : ∀ ps : List Str, (∀ z ∈ ps, z.length ≤ b) → (ps.map (·.length)).sum ≤ ps.length * b
  | [], _ => Nat.zero_le _
  | z :: r, h => by
    have ih := sum_le r fun y hy => h y (List.mem_cons_of_mem _ hy)
    have hz := h z (List.mem_cons_self ..)
    show z.length + (r.map (·.length)).sum ≤ (r.length + 1) * b
    rw [Nat.add_mul]
    omega
theorem len_app (a b : Str) : (a ++ b).length = a.length + b.length := Array.size_append
theorem cutS_len (z : Str) (lo hi : Option Int) : (cutS z lo hi).length ≤ z.length := by
  show ((z.cps.toList.drop _).take _).toArray.size ≤ _
  rw [List.size_toArray, List.length_take, List.length_drop, len_tl]
  omega
theorem szl {n : Nat} (h : n ≤ 100000) : n ≤ sizeLine := Nat.le_trans h (by decide)
theorem szlt {n : Nat} (h : n < 100000) : n < sizeLine := Nat.lt_of_lt_of_le h (by decide)
def spSigns : Sp := fun vs H Q _ => ∃ (W : Addr) (z : Str) (m : Int), vs = [.ref W, .str z, .int m] ∧ 0 < z.length ∧ z.length ≤ 1000 ∧ 0 ≤ m ∧ m ≤ 1000 ∧ IsW H W ∧
  ∀ (t : List Nat) H', t.length = m.toNat → (∀ c ∈ t, c ∈ z.cps.toList) → Wx W H H' → Q (.str ⟨t.toArray⟩) H'
theorem ints_at {ns : List Int} {r : Int} (h0 : 0 ≤ r) (h1 : r < ns.length) : ∃ n, n ∈ ns ∧ atI (ns.map V.int) r = some (.int n) := by
  obtain ⟨v, hv, ev⟩ := atI_in (xs := ns.map V.int) h0 (by rw [List.length_map]; exact h1)
  obtain ⟨n, hn, rfl⟩ := List.mem_map.mp hv
  exact ⟨n, hn, ev⟩
theorem strs_at {ns : List Str} {r : Int} (h0 : 0 ≤ r) (h1 : r < ns.length) : ∃ n, n ∈ ns ∧ atI (ns.map V.str) r = some (.str n) := by
  obtain ⟨v, hv, ev⟩ := atI_in (xs := ns.map V.str) h0 (by rw [List.length_map]; exact h1)
  obtain ⟨n, hn, rfl⟩ := List.mem_map.mp hv
  exact ⟨n, hn, ev⟩
theorem mk_len (t : List Nat) : (⟨t.toArray⟩ : Str).length = t.length := List.size_toArray
def spText (b : Nat) : Sp := fun vs H Q _ => ∃ (W : Addr), vs = [.ref W] ∧ IsW H W ∧ ∀ t H', t.length ≤ b → Wx W H H' → Q (.str t) H'
theorem same_upd {H : Hp} {p : Addr} {o : HO} (h : H p = none) : Same H (upd H p o) := fun b x e => by
  rw [upd_ne (ne_of_none e h)]
  exact e
theorem same_mut {H H' : Hp} {p : Addr} {o : HO} (e : Same H H') (h : H p = none) : Same H (upd H' p o) := fun a u ha => by
  rw [upd_ne (ne_of_none ha h)]
  exact e a u ha
theorem take_map {α β : Type} {xs : List α} {i : Nat} {c : α} (f : α → β) (h : xs[i]? = some c) : (xs.take (i + 1)).map f = (xs.take i).map f ++ [f c] := by
  rw [List.take_add_one, h, List.map_append]
  rfl
theorem at_l {z : Str} {i c : Nat} (h : z.cps[i]? = some c) : z.cps.toList[i]? = some c := by
  rw [Array.getElem?_toList]
  exact h
theorem filter_take {α β : Type} {xs : List α} {i : Nat} {c : α} (p : α → Bool) (f : α → β) (h : xs[i]? = some c) : ((xs.take (i + 1)).filter p).map f = ((xs.take i).filter p).map f ++ (if p c = true then [f c] else []) := by
  rw [List.take_add_one, h, List.filter_append, List.map_append]
  by_cases hp : p c = true
  · rw [if_pos hp]
    simp [hp]
  · rw [if_neg hp]
    simp [hp]
theorem all_filter {α : Type} (p : α → Bool) (xs : List α) : ((xs.filter fun c => !p c)).isEmpty = xs.all p := by
  induction xs with
  | nil => rfl
  | cons a r ih =>
    cases h : p a with
    | true => simp only [List.filter_cons, h, List.all_cons, Bool.not_true, Bool.true_and]; exact ih
    | false => simp [List.filter_cons, h, List.all_cons]
theorem isEmpty_map {α β : Type} (f : α → β) (xs : List α) : (xs.map f).isEmpty = xs.isEmpty := by
  cases xs <;> rfl
theorem str_at {ss : List Str} {i : Nat} {x : V} (h : (ss.map V.str)[i]? = some x) : ∃ y, x = .str y ∧ ss[i]? = some y ∧ y ∈ ss := by
  rw [List.getElem?_map] at h
  cases e : ss[i]? with
  | none =>
    rw [e] at h
    cases h
  | some y =>
    rw [e] at h
    cases h
    exact ⟨y, rfl, rfl, List.mem_of_getElem? e⟩
theorem cutV_map {α : Type} (f : α → V) (ns : List α) (lo hi : Option Int) : ∃ ms : List α, cutV (ns.map f) lo hi = ms.map f ∧ ms.length ≤ ns.length := by
  refine ⟨(ns.drop (HT.sIx ns.length 0 lo)).take (HT.sIx ns.length ns.length hi - HT.sIx ns.length 0 lo), ?_, ?_⟩
  · unfold cutV
    rw [List.length_map, List.map_take, List.map_drop]
  · rw [List.length_take, List.length_drop]
    omega
theorem int_at {ns : List Int} {i : Nat} {x : V} (h : (ns.map V.int)[i]? = some x) : ∃ n, x = .int n := by
  rw [List.getElem?_map] at h
  cases e : ns[i]? with
  | none =>
    rw [e] at h
    cases h
  | some y =>
    rw [e] at h
    cases h
    exact ⟨y, rfl⟩
theorem dp_bools {K : PySem.W.Frag} {H : Hp} : ∀ bs : List Bool, DpAll K H (bs.map V.bl) (bs.map PyData.bool)
  | [] => .nil
  | b :: r => .cons (.bl b) (dp_bools r)
theorem lay_bools : ∀ bs : List Bool, PyData.canLayAll0 (bs.map PyData.bool) = true
  | [] => rfl
  | _ :: r => by simp [PyData.canLayAll0, PyData.canLay0, lay_bools r]
theorem depth_bools : ∀ bs : List Bool, PyData.depthAll (bs.map PyData.bool) = 0
  | [] => rfl
  | _ :: r => by simp [PyData.depthAll, PyData.depth, depth_bools r]
theorem shaped_bools (bs : List Bool) : SeqAt.shaped (.list (bs.map PyData.bool)) = true := by
  simp [SeqAt.shaped, PyData.canLay0, PyData.depth, lay_bools, depth_bools]
theorem eqv_bools (bs : List Bool) : PyData.eqv (.list (bs.map PyData.bool)) (.list (bs.map PyData.bool)) = true := SeqAt.eqv_refl _ (by simp [PyData.canLay0, lay_bools])
def spLaw (K : PySem.W.Frag) : Sp := fun vs H Q _ => ∃ (a : Addr) (ns : List Int), vs = [.ref a] ∧ SqL K H a (ns.map V.int) ∧ ns.length ≤ 63 ∧ ∀ H', Q (.bl true) H'
/-! ### sorted(xs) of data that are alike, any length: the items by letters of a type B, their values, their data -/
section
variable {B : Type} {val : B → V} {enc : B → PyData}
theorem vals_each : ∀ {bs : List B} {us : List Value}, Vals (bs.map val) us → PySem.W.EachIs (fun u b => RelV (val b) u) us bs
  | [], _, r => by
    cases r
    exact .nil
  | b :: bs, _, r => by
    cases r with
    | cons h t => exact .cons h (vals_each t)
theorem each_vals : ∀ {bs : List B} {us : List Value}, PySem.W.EachIs (fun u b => RelV (val b) u) us bs → Vals (bs.map val) us
  | _, _, .nil => .nil
  | _, _, .cons h t => .cons h (each_vals t)
theorem each_reads {X : Cx} {pins : List (Addr × Obj)} {σ : L2.St} {H : Hp} {s : Shared} (I : Inv X pins σ H s) : ∀ {bs : List B} {us : List Value}, (∀ b ∈ bs, Dp X.K H (val b) (enc b)) → PySem.W.EachIs (fun u b => RelV (val b) u) us bs → PySem.W.EachIs (fun u b => ∃ as, Reads s.heap u (enc b) as) us bs
  | _, _, _, .nil => .nil
  | _, _, hd, .cons h t => .cons (Dp.reads I _ _ _ (hd _ (List.mem_cons_self ..)) h) (each_reads I (fun b hb => hd b (List.mem_cons_of_mem _ hb)) t)
def sortB (enc : B → PyData) (bs : List B) : List B := bs.mergeSort (PySem.W.dataLe false enc)
def rSortB (K : PySem.W.Frag) (val : B → V) (enc : B → PyData) : List V → Hp → VK → Prop := fun vs H Q => ∃ (a : Addr) (bs : List B), vs = [V.ref a] ∧ SqL K H a (bs.map val) ∧ (∀ b ∈ bs, Dp K H (val b) (enc b)) ∧ PySem.W.AllAlike (bs.map enc) ∧ PySem.W.Sortable (bs.map enc) ∧
  (∀ b ∈ bs, (enc b).depth ≤ 60) ∧ ∀ p, H p = none → Q (.ref p) (upd H p (.lst ((sortB enc bs).map val)))
theorem cr_sortB {X : Cx} (val : B → V) (enc : B → PyData) (hu : X.A.units + 64 < cLine) : CallR X (.builtin "sorted") (rSortB X.K val enc) := by
  intro pins s σ H vs us Q I r h
  obtain ⟨a, bs, rfl, hs, hd, ha, hk, hdp, q⟩ := h
  obtain ⟨its, rv, hl, hz⟩ := I.list hs
  rw [Vals.ref1 r]
  have e1 := vals_each rv
  rw [List.length_map] at hz
  refine PySem.W.sorted_data (enc := enc) hl.isList e1 (each_reads I hd e1) ha hk hz (fun b hb => by have := hdp b hb; omega) fun out ho eo => ?_
  obtain ⟨ep, he'⟩ := PyProof.Rows.sortedAll_at s.heap its out.toArray
  have hlen : ((sortB enc bs).map val).length ≤ sizeLine := by
    rw [List.length_map]
    unfold sortB
    rw [List.length_mergeSort]
    exact hz
  exact ⟨.ref _, upd H (s.heap.objs.size + 1) (.lst ((sortB enc bs).map val)), I.laid (t' := s.toks) (fun _ _ => PyProof.Rows.sortedAll_old) (Nat.le_succ _) ⟨hlen, out, ep, each_vals eo, he'⟩, rfl, q _ (I.hok.fresh (Nat.le_succ _))⟩
theorem sortB_perm (enc : B → PyData) (bs : List B) : (sortB enc bs).Perm bs := List.mergeSort_perm ..
theorem sortB_sorted (enc : B → PyData) (bs : List B) : (sortB enc bs).Pairwise fun a b => PySem.W.dataLe false enc a b = true := PySem.W.sort_pairwise (PySem.W.sortLe_total _ _ _) bs
end
theorem perm_sorted_eq {α : Type} {r : α → α → Prop} (anti : ∀ a b, r a b → r b a → a = b) : ∀ A B : List α, A.Pairwise r → B.Pairwise r → A.Perm B → A = B
  | [], B, _, _, h => (List.Perm.nil_eq h)
  | a :: A, [], _, _, h => absurd h.length_eq (by simp)
  | a :: A, b :: B, ha, hb, h => by
    have e : a = b := by
      rcases List.mem_cons.mp (h.mem_iff.mp (List.mem_cons_self ..)) with e | e
      · exact e
      · rcases List.mem_cons.mp (h.mem_iff.mpr (List.mem_cons_self ..)) with e' | e'
        · exact e'.symm
        · exact anti a b ((List.pairwise_cons.mp ha).1 b e') ((List.pairwise_cons.mp hb).1 a e)
    subst e
    rw [perm_sorted_eq anti A B (List.pairwise_cons.mp ha).2 (List.pairwise_cons.mp hb).2 (List.Perm.cons_inv h)]
/-! ### pairs of texts, in order -/
def ltS (a b : Str) : Prop := a.cps.toList < b.cps.toList
instance (a b : Str) : Decidable (ltS a b) := inferInstanceAs (Decidable (a.cps.toList < b.cps.toList))
theorem ltS_irr (a : Str) : ¬ ltS a a := List.lt_irrefl _
theorem ltS_trans {a b c : Str} (h : ltS a b) (h2 : ltS b c) : ltS a c := List.lt_trans h h2
theorem ltS_tri (a b : Str) : ltS a b ∨ a = b ∨ ltS b a := by
  by_cases h : ltS a b
  · exact .inl h
  · by_cases h2 : ltS b a
    · exact .inr (.inr h2)
    · exact .inr (.inl (PyProof.Rows.ext_toList (List.le_antisymm (List.not_lt.mp h2) (List.not_lt.mp h))))
def leSS (p q : Str × Str) : Prop := ltS p.1 q.1 ∨ (p.1 = q.1 ∧ ¬ ltS q.2 p.2)
theorem leSS_anti (p q : Str × Str) (h : leSS p q) (h2 : leSS q p) : p = q := by
  obtain ⟨a, b⟩ := p
  obtain ⟨c, d⟩ := q
  rcases h with h | ⟨e, h⟩
  · rcases h2 with h2 | ⟨e2, h2⟩
    · exact absurd (ltS_trans h h2) (ltS_irr _)
    · have e2' : c = a := e2
      subst e2'
      exact absurd h (ltS_irr _)
  · have e' : a = c := e
    subst e'
    rcases h2 with h2 | ⟨e2, h2⟩
    · exact absurd h2 (ltS_irr _)
    · rcases ltS_tri b d with x | x | x
      · exact absurd x h2
      · rw [x]
      · exact absurd x h
theorem dataLe_ss {B : Type} (x y : B → Str) (p q : B) (h : PySem.W.dataLe false (fun b => .tuple [.str (x b), .str (y b)]) p q = true) : leSS (x p, y p) (x q, y q) := by
  have e : PySem.W.dataLt (.tuple [.str (x q), .str (y q)]) (.tuple [.str (x p), .str (y p)]) = false := by
    have h' : (!PySem.W.dataLt (.tuple [.str (x q), .str (y q)]) (.tuple [.str (x p), .str (y p)])) = true := h
    simpa using h'
  rw [PySem.W.dataLt_pair (by simp [PySem.W.alike]) (by simp [PySem.W.alike]), PySem.W.dataLt_str, PySem.W.dataLt_str] at e
  simp only [PyData.eqv, beq_iff_eq] at e
  by_cases h1 : x q = x p
  · rw [if_pos h1] at e
    by_cases h2 : y q = y p
    · refine .inr ⟨h1.symm, fun z => ?_⟩
      have z' : ltS (y q) (y p) := z
      rw [h2] at z'
      exact ltS_irr _ z'
    · rw [if_neg h2] at e
      exact .inr ⟨h1.symm, of_decide_eq_false e⟩
  · rw [if_neg h1] at e
    rcases ltS_tri (x p) (x q) with z | z | z
    · exact .inl z
    · exact absurd z.symm h1
    · exact absurd z (of_decide_eq_false e)
end My
namespace My
open PySem PySem.Spec PyProof.Rows L2 TL
def Asc (z : Str) : Prop := ∀ c ∈ z.cps.toList, c < 128
instance (z : Str) : Decidable (Asc z) := inferInstanceAs (Decidable (∀ c ∈ z.cps.toList, c < 128))
theorem asc_mk {t : List Nat} (h : ∀ c ∈ t, c < 128) : Asc ⟨t.toArray⟩ := fun c hc => h c (by simpa using hc)
theorem asc_app {a b : Str} (ha : Asc a) (hb : Asc b) : Asc (a ++ b) := by
  intro c hc
  have e : (a ++ b).cps.toList = a.cps.toList ++ b.cps.toList := Array.toList_append
  rw [e] at hc
  rcases List.mem_append.mp hc with h | h
  · exact ha c h
  · exact hb c h
theorem asc_cut {z : Str} (h : Asc z) (lo hi : Option Int) : Asc (cutS z lo hi) := by
  refine asc_mk fun c hc => h c ?_
  exact List.mem_of_mem_drop (List.mem_of_mem_take hc)
theorem inV_strs (x : Str) (F : List Str) : inV (.str x) (F.map V.str) = decide (x ∈ F) := by
  unfold inV
  rw [List.any_map, Bool.eq_iff_iff, List.any_eq_true, decide_eq_true_iff]
  constructor
  · rintro ⟨y, hy, e⟩
    have e' : (y == x) = true := e
    rw [← eq_of_beq e']
    exact hy
  · intro h
    exact ⟨x, h, by show (x == x) = true; exact beq_self_eq_true x⟩
theorem flat_strs (F : List Str) : (F.map V.str).all flatV = true := by
  rw [List.all_map, List.all_eq_true]
  intro x _
  rfl
/-! ### texts as data -/
theorem dp_strs {K : PySem.W.Frag} {H : Hp} : ∀ F : List Str, DpAll K H (F.map V.str) (F.map PyData.str)
  | [] => .nil
  | b :: r => .cons (.str b) (dp_strs r)
theorem ok_asc {z : Str} (h : Asc z) : PyData.strOk z = true := by
  unfold PyData.strOk
  rw [Array.all_eq_true']
  intro c hc
  have : c < 128 := h c (by simpa using hc)
  exact decide_eq_true (by omega)
theorem lay_strs : ∀ F : List Str, (∀ z ∈ F, Asc z) → PyData.canLayAll0 (F.map PyData.str) = true
  | [], _ => rfl
  | z :: r, h => by simp [PyData.canLayAll0, PyData.canLay0, ok_asc (h z (List.mem_cons_self ..)), lay_strs r fun y hy => h y (List.mem_cons_of_mem _ hy)]
theorem depth_strs : ∀ F : List Str, PyData.depthAll (F.map PyData.str) = 0
  | [] => rfl
  | _ :: r => by simp [PyData.depthAll, PyData.depth, depth_strs r]
theorem shaped_strs (F : List Str) (h : ∀ z ∈ F, Asc z) : SeqAt.shaped (.list (F.map PyData.str)) = true := by
  simp [SeqAt.shaped, PyData.canLay0, PyData.depth, lay_strs F h, depth_strs]
end My
namespace My
open PySem PySem.Spec PyProof.Rows L2 TL
/-! ### calls with keywords: the parameters' values picked out of those that lack and those that are told -/
def pickKw {α : Type} : List (Nat ⊕ Nat) → List α → List α → List α
  | [], _, _ => []
  | .inl i :: r, mv, ws => (mv[i]?).toList ++ pickKw r mv ws
  | .inr i :: r, mv, ws => (ws[i]?).toList ++ pickKw r mv ws
theorem vals_opt {xs : List V} {us : List Value} (r : Vals xs us) (i : Nat) : (xs[i]? = none ∧ us[i]? = none) ∨ ∃ x u, xs[i]? = some x ∧ us[i]? = some u ∧ RelV x u := by
  cases e : xs[i]? with
  | some x =>
    obtain ⟨u, h, ru⟩ := r.get e
    exact .inr ⟨x, u, rfl, h, ru⟩
  | none =>
    have h := List.getElem?_eq_none_iff.mp e
    rw [r.length] at h
    exact .inl ⟨rfl, List.getElem?_eq_none_iff.mpr h⟩
theorem opt_vals {xs : List V} {us : List Value} (r : Vals xs us) (i : Nat) : Vals (xs[i]?).toList (us[i]?).toList := by
  rcases vals_opt r i with ⟨e1, e2⟩ | ⟨x, u, e1, e2, h⟩
  · rw [e1, e2]
    exact .nil
  · rw [e1, e2]
    exact .cons h .nil
theorem pick_vals {mz zs : List V} {mv ws : List Value} (r2 : Vals mz mv) (r3 : Vals zs ws) : ∀ sel : List (Nat ⊕ Nat), Vals (pickKw sel mz zs) (pickKw sel mv ws)
  | [] => .nil
  | .inl i :: r => (opt_vals r2 i).append (pick_vals r2 r3 r)
  | .inr i :: r => (opt_vals r3 i).append (pick_vals r2 r3 r)
theorem pick_rel (sel : List (Nat ⊕ Nat)) {vs mz zs : List V} {us mv ws : List Value} (r1 : Vals vs us) (r2 : Vals mz mv) (r3 : Vals zs ws) : Vals (vs ++ pickKw sel mz zs) (us ++ pickKw sel mv ws) := r1.append (pick_vals r2 r3 sel)
/-! ### an expression, a test, by what it gives: the rest is read once -/
section
variable {X : Cx}
def tPure (t : TE) : TE := fun σ H Q => ∃ v, t σ H (fun y H' => y = v ∧ H' = H) ∧ Q v H
theorem pe_pure {e : Expr} {t : TE} (h : PE X e t) : PE X e (tPure t) := by
  refine ⟨fun pins s σ H Q I hw => ?_⟩
  obtain ⟨v, h1, h2⟩ := hw
  refine thn (h.run pins s σ H _ I h1) fun u s1 ⟨x, H1, I1, r1, q1⟩ => ?_
  obtain ⟨rfl, rfl⟩ := q1
  exact ⟨x, H1, I1, r1, h2⟩
def tPureT (t : TT) : TT := fun σ H Q => ∃ b, t σ H (fun y H' => y = b ∧ H' = H) ∧ Q b H
theorem pt_pure {e : Expr} {t : TT} (h : PT X e t) : PT X e (tPureT t) := by
  refine ⟨fun pins s σ H Q I hw => ?_⟩
  obtain ⟨v, h1, h2⟩ := hw
  refine thn (h.run pins s σ H _ I h1) fun u s1 ⟨H1, I1, q1⟩ => ?_
  obtain ⟨rfl, rfl⟩ := q1
  exact ⟨H1, I1, h2⟩
def tMid (t : TE) : TE := fun σ H Q => ∃ R : VK, t σ H R ∧ ∀ v H', R v H' → Q v H'
theorem pe_mid {e : Expr} {t : TE} (h : PE X e t) : PE X e (tMid t) := by
  refine ⟨fun pins s σ H Q I hw => ?_⟩
  obtain ⟨R, h1, h2⟩ := hw
  exact thn (h.run pins s σ H _ I h1) fun u s1 ⟨x, H1, I1, r1, q1⟩ => ⟨x, H1, I1, r1, h2 _ _ q1⟩
def tMidT (t : TT) : TT := fun σ H Q => ∃ R : Bool → Hp → Prop, t σ H R ∧ ∀ b H', R b H' → Q b H'
theorem pt_mid {e : Expr} {t : TT} (h : PT X e t) : PT X e (tMidT t) := by
  refine ⟨fun pins s σ H Q I hw => ?_⟩
  obtain ⟨R, h1, h2⟩ := hw
  exact thn (h.run pins s σ H _ I h1) fun u s1 ⟨H1, I1, q1⟩ => ⟨H1, I1, h2 _ _ q1⟩
end
/-! ### fields -/
theorem len_putF (f : Str) (v : V) : ∀ fs : List (Str × V), (putF f v fs).length ≤ fs.length + 1
  | [] => Nat.le_refl _
  | (g, x) :: r => by
    unfold putF
    split
    · exact Nat.le_succ _
    · exact Nat.succ_le_succ (len_putF f v r)
theorem few {n : Nat} {f : Str} {v : V} {fs : List (Str × V)} (h : fs.length ≤ n) : (putF f v fs).length ≤ n + 1 := Nat.le_trans (len_putF f v fs) (Nat.succ_le_succ h)
theorem few0 : ([] : List (Str × V)).length ≤ 0 := Nat.le_refl _
theorem fewL {n m : Nat} (h : n ≤ m) (k : m < 1000) : n < 1000 := Nat.lt_of_le_of_lt h k
theorem ne_same {K : PySem.W.Frag} {H : Hp} {x y : V} {d : PyData} {Q : VK} (hx : Dp K H x d) (hy : Dp K H y d) (sh : SeqAt.shaped d = true) (q : Q (.bl false) H) : rNeD K x y H Q := by
  refine ⟨d, d, hx, hy, sh, sh, ?_⟩
  rw [SeqAt.eqv_refl _ (SeqAt.canLay_of_shaped sh)]
  exact q
theorem kit2 {K : PySem.W.Frag} {n m : String} {b : Bool} (h : kitB n m = some b) : PySem.W.kitOne K (.type n) (.type m) = some b := kit_ty h
def oV : Option Int → V
  | none => .non
  | some n => .int n
def od : Option Int → PyData
  | none => .none
  | some n => .int n
theorem dp_od {K : PySem.W.Frag} {H : Hp} (x : Option Int) : Dp K H (oV x) (od x) := by
  cases x with
  | none => exact .non
  | some n => exact .int n
end My
namespace My
open PySem PySem.Spec PyProof.Rows L2 TL
def topS (i : Nat) : Stmt := PySem.Challenge.pw_pagelodge_k16_the_word_of_an_age.main.body.getD i (.Pass ⟨0, 0, 0, 0⟩)
abbrev s_lets : Stmt := topS 6
theorem sc_lets : FnScope ["rule", "wish", "age"] ["rule", "wish", "age"] (defScope s_lets) := ⟨rfl, rfl, rfl, by decide +kernel, rfl, by decide +kernel, by decide +kernel⟩
abbrev s_law_well : Stmt := topS 8
theorem sc_law_well : FnScope ["_law_cell"] ["_law_cell"] (defScope s_law_well) := ⟨rfl, rfl, rfl, by decide +kernel, rfl, by decide +kernel, by decide +kernel⟩
abbrev s_law_draw : Stmt := topS 9
theorem sc_law_draw : FnScope ["_law_well_here", "_law_many", "_law_found", "_law_number_here"] ["_law_well_here", "_law_many"] (defScope s_law_draw) := ⟨rfl, rfl, rfl, by decide +kernel, rfl, by decide +kernel, by decide +kernel⟩
abbrev s_law_number : Stmt := topS 10
theorem sc_law_number : FnScope ["_law_well_here", "_law_lot", "_law_found", "_law_k"] ["_law_well_here"] (defScope s_law_number) := ⟨rfl, rfl, rfl, by decide +kernel, rfl, by decide +kernel, by decide +kernel⟩
abbrev s_law_fields : Stmt := topS 11
theorem sc_law_fields : FnScope ["_law_well_here", "_law_found", "_law_k"] ["_law_well_here"] (defScope s_law_fields) := ⟨rfl, rfl, rfl, by decide +kernel, rfl, by decide +kernel, by decide +kernel⟩
abbrev s_law_ages : Stmt := topS 12
theorem sc_law_ages : FnScope ["_law_well_here", "_law_some", "_law_till", "_law_found", "_law_end", "_law_age"] ["_law_well_here", "_law_some"] (defScope s_law_ages) := ⟨rfl, rfl, rfl, by decide +kernel, rfl, by decide +kernel, by decide +kernel⟩
abbrev s_law_due : Stmt := topS 13
theorem sc_law_due : FnScope ["_law_some", "_law_age", "_law_shut"] ["_law_some", "_law_age"] (defScope s_law_due) := ⟨rfl, rfl, rfl, by decide +kernel, rfl, by decide +kernel, by decide +kernel⟩
abbrev s_law : Stmt := topS 14
theorem sc_law : FnScope ["_law_script", "_law_cell", "_law_well_here", "_law_some", "_law_a", "_law_b", "_law_c", "_law_d", "_law_e", "_law_f", "_law_g", "_law_h", "_law_rule", "_law_i", "_law_j", "_law_k", "_law_l", "_law_m", "_law_n", "_law_wish", "_law_ages_here", "_law_age", "_law_found"] ["_law_script"] (defScope s_law) := ⟨rfl, rfl, rfl, by decide +kernel, rfl, by decide +kernel, by decide +kernel⟩
abbrev s_Rule_init : Stmt := inClass (topS 3) 0
theorem sc_Rule_init : FnScope ["self", "keep", "worn", "alone", "anew", "own", "common", "never", "strict"] ["self", "keep", "worn", "alone", "anew", "own", "common", "never", "strict"] (defScope s_Rule_init) := ⟨rfl, rfl, rfl, by decide +kernel, rfl, by decide +kernel, by decide +kernel⟩
abbrev s_Wish_init : Stmt := inClass (topS 4) 0
theorem sc_Wish_init : FnScope ["self", "atmost", "left", "worn", "anew", "kept", "firm"] ["self", "atmost", "left", "worn", "anew", "kept", "firm"] (defScope s_Wish_init) := ⟨rfl, rfl, rfl, by decide +kernel, rfl, by decide +kernel, by decide +kernel⟩
structure Def (K : PySem.W.Frag) (mg : Str → Option Value) (x : Str) (st : Stmt) (ps : List Str) (f : Addr) (fd : FuncData) : Prop where
  F : Fun K x x st f fd
  b : Binds K fd ps []
  g : mg x = some (.ref f)
structure DefM (K : PySem.W.Frag) (x qual : Str) (st : Stmt) (ps : List Str) (f : Addr) (fd : FuncData) : Prop where
  F : Fun K x qual st f fd
  b : Binds K fd ps []
structure DefK (K : PySem.W.Frag) (x qual : Str) (st : Stmt) (f : Addr) (fd : FuncData) : Prop where
  F : Fun K x qual st f fd
structure DefG (K : PySem.W.Frag) (mg : Str → Option Value) (x qual : Str) (st : Stmt) (f : Addr) (fd : FuncData) : Prop where
  F : Fun K x qual st f fd
  g : mg x = some (.ref f)
structure Txt (K : PySem.W.Frag) (mg : Str → Option Value) where
  f_lets : Addr
  fd_lets : FuncData
  d_lets : Def K mg "lets" s_lets ["rule", "wish", "age"] f_lets fd_lets
  f_law_well : Addr
  fd_law_well : FuncData
  d_law_well : Def K mg "_law_well" s_law_well ["_law_cell"] f_law_well fd_law_well
  f_law_draw : Addr
  fd_law_draw : FuncData
  d_law_draw : Def K mg "_law_draw" s_law_draw ["_law_well_here", "_law_many"] f_law_draw fd_law_draw
  f_law_number : Addr
  fd_law_number : FuncData
  d_law_number : Def K mg "_law_number" s_law_number ["_law_well_here"] f_law_number fd_law_number
  f_law_fields : Addr
  fd_law_fields : FuncData
  d_law_fields : Def K mg "_law_fields" s_law_fields ["_law_well_here"] f_law_fields fd_law_fields
  f_law_ages : Addr
  fd_law_ages : FuncData
  d_law_ages : Def K mg "_law_ages" s_law_ages ["_law_well_here", "_law_some"] f_law_ages fd_law_ages
  f_law_due : Addr
  fd_law_due : FuncData
  d_law_due : Def K mg "_law_due" s_law_due ["_law_some", "_law_age"] f_law_due fd_law_due
  f_law : Addr
  fd_law : FuncData
  d_law : Def K mg "law" s_law ["_law_script"] f_law fd_law
  f_Rule_init : Addr
  fd_Rule_init : FuncData
  d_Rule_init : DefK K "__init__" "Rule.__init__" s_Rule_init  f_Rule_init fd_Rule_init
  f_Wish_init : Addr
  fd_Wish_init : FuncData
  d_Wish_init : DefK K "__init__" "Wish.__init__" s_Wish_init  f_Wish_init fd_Wish_init
  C_Rule : Addr
  g_Rule : mg "Rule" = some (.ref C_Rule)
  cl_Rule : Cls K C_Rule
  mk_Rule : Mk K C_Rule f_Rule_init
  n_Rule_keep : NoAttr K C_Rule "keep"
  n_Rule_worn : NoAttr K C_Rule "worn"
  n_Rule_alone : NoAttr K C_Rule "alone"
  n_Rule_anew : NoAttr K C_Rule "anew"
  n_Rule_own : NoAttr K C_Rule "own"
  n_Rule_common : NoAttr K C_Rule "common"
  n_Rule_never : NoAttr K C_Rule "never"
  n_Rule_strict : NoAttr K C_Rule "strict"
  C_Wish : Addr
  g_Wish : mg "Wish" = some (.ref C_Wish)
  cl_Wish : Cls K C_Wish
  mk_Wish : Mk K C_Wish f_Wish_init
  n_Wish_atmost : NoAttr K C_Wish "atmost"
  n_Wish_left : NoAttr K C_Wish "left"
  n_Wish_worn : NoAttr K C_Wish "worn"
  n_Wish_anew : NoAttr K C_Wish "anew"
  n_Wish_kept : NoAttr K C_Wish "kept"
  n_Wish_firm : NoAttr K C_Wish "firm"
  kb_0 : ∃ gg, KBn K fd_Rule_init ["self", "keep", "worn", "alone", "anew", "own", "common", "never", "strict"] 1 ["keep", "worn", "alone", "anew", "own", "common", "never", "strict"] gg (fun vs zs => vs ++ pickKw [.inr 0, .inr 1, .inr 2, .inr 3, .inr 4, .inr 5, .inr 6, .inr 7] (([] : List (Str × V)).map (·.2)) zs)
  kb_1 : ∃ gg, KBn K fd_Wish_init ["self", "atmost", "left", "worn", "anew", "kept", "firm"] 1 ["atmost", "left", "worn", "anew", "kept", "firm"] gg (fun vs zs => vs ++ pickKw [.inr 0, .inr 1, .inr 2, .inr 3, .inr 4, .inr 5] (([] : List (Str × V)).map (·.2)) zs)
  m_int : mg "int" = none
  m_isinstance : mg "isinstance" = none
  m_range : mg "range" = none
  m_str : mg "str" = none
/-! ### rules and wishes: what they bear -/
structure RuleR where
  keep : Int
  worn : Int
  alone : Int
  anew : Bool
  own : Bool
  common : Bool
  never : Bool
  strict : Bool
structure WishR where
  atmost : Option Int
  left : Int
  worn : Int
  anew : Bool
  kept : Bool
  firm : Bool
def fR (r : RuleR) : List (Str × V) := putF "strict" (.bl r.strict) (putF "never" (.bl r.never) (putF "common" (.bl r.common) (putF "own" (.bl r.own) (putF "anew" (.bl r.anew) (putF "alone" (.int r.alone) (putF "worn" (.int r.worn) (putF "keep" (.int r.keep) [])))))))
def fW (r : WishR) : List (Str × V) := putF "firm" (.bl r.firm) (putF "kept" (.bl r.kept) (putF "anew" (.bl r.anew) (putF "worn" (.int r.worn) (putF "left" (.int r.left) (putF "atmost" (oV r.atmost) [])))))
theorem fR_keep (r : RuleR) : (fR r).lookup ("keep" : Str) = some (.int r.keep) := by unfold fR; (repeat (rw [lookup_putF, if_neg (by decide +kernel)])); rw [lookup_putF, if_pos rfl]
theorem fR_worn (r : RuleR) : (fR r).lookup ("worn" : Str) = some (.int r.worn) := by unfold fR; (repeat (rw [lookup_putF, if_neg (by decide +kernel)])); rw [lookup_putF, if_pos rfl]
theorem fR_alone (r : RuleR) : (fR r).lookup ("alone" : Str) = some (.int r.alone) := by unfold fR; (repeat (rw [lookup_putF, if_neg (by decide +kernel)])); rw [lookup_putF, if_pos rfl]
theorem fR_anew (r : RuleR) : (fR r).lookup ("anew" : Str) = some (.bl r.anew) := by unfold fR; (repeat (rw [lookup_putF, if_neg (by decide +kernel)])); rw [lookup_putF, if_pos rfl]
theorem fR_own (r : RuleR) : (fR r).lookup ("own" : Str) = some (.bl r.own) := by unfold fR; (repeat (rw [lookup_putF, if_neg (by decide +kernel)])); rw [lookup_putF, if_pos rfl]
theorem fR_common (r : RuleR) : (fR r).lookup ("common" : Str) = some (.bl r.common) := by unfold fR; (repeat (rw [lookup_putF, if_neg (by decide +kernel)])); rw [lookup_putF, if_pos rfl]
theorem fR_never (r : RuleR) : (fR r).lookup ("never" : Str) = some (.bl r.never) := by unfold fR; (repeat (rw [lookup_putF, if_neg (by decide +kernel)])); rw [lookup_putF, if_pos rfl]
theorem fR_strict (r : RuleR) : (fR r).lookup ("strict" : Str) = some (.bl r.strict) := by unfold fR; rw [lookup_putF, if_pos rfl]
theorem fW_atmost (r : WishR) : (fW r).lookup ("atmost" : Str) = some (oV r.atmost) := by unfold fW; (repeat (rw [lookup_putF, if_neg (by decide +kernel)])); rw [lookup_putF, if_pos rfl]
theorem fW_left (r : WishR) : (fW r).lookup ("left" : Str) = some (.int r.left) := by unfold fW; (repeat (rw [lookup_putF, if_neg (by decide +kernel)])); rw [lookup_putF, if_pos rfl]
theorem fW_worn (r : WishR) : (fW r).lookup ("worn" : Str) = some (.int r.worn) := by unfold fW; (repeat (rw [lookup_putF, if_neg (by decide +kernel)])); rw [lookup_putF, if_pos rfl]
theorem fW_anew (r : WishR) : (fW r).lookup ("anew" : Str) = some (.bl r.anew) := by unfold fW; (repeat (rw [lookup_putF, if_neg (by decide +kernel)])); rw [lookup_putF, if_pos rfl]
theorem fW_kept (r : WishR) : (fW r).lookup ("kept" : Str) = some (.bl r.kept) := by unfold fW; (repeat (rw [lookup_putF, if_neg (by decide +kernel)])); rw [lookup_putF, if_pos rfl]
theorem fW_firm (r : WishR) : (fW r).lookup ("firm" : Str) = some (.bl r.firm) := by unfold fW; rw [lookup_putF, if_pos rfl]
def RuleAt (C : Addr) (H : Hp) (p : Addr) (r : RuleR) : Prop := ∃ dx, H p = some (.ins C dx (fR r))
def WishAt (C : Addr) (H : Hp) (p : Addr) (r : WishR) : Prop := ∃ dx, H p = some (.ins C dx (fW r))
theorem RuleAt.mono {C : Addr} {H H' : Hp} {p : Addr} {r : RuleR} (s : Same H H') : RuleAt C H p r → RuleAt C H' p r := fun ⟨dx, h⟩ => ⟨dx, s _ _ h⟩
theorem WishAt.mono {C : Addr} {H H' : Hp} {p : Addr} {r : WishR} (s : Same H H') : WishAt C H p r → WishAt C H' p r := fun ⟨dx, h⟩ => ⟨dx, s _ _ h⟩
theorem ins_ne {H : Hp} {W p C dx : Addr} {fs : List (Str × V)} (hI : IsW H W) (h : H p = some (.ins C dx fs)) : p ≠ W := by
  obtain ⟨a, b, c, hw⟩ := hI
  rintro rfl
  rw [hw] at h
  cases h
theorem RuleAt.wx {C W : Addr} {H H' : Hp} {p : Addr} {r : RuleR} (hI : IsW H W) (x : Wx W H H') : RuleAt C H p r → RuleAt C H' p r := fun ⟨dx, h⟩ => ⟨dx, x.keep _ _ (ins_ne hI h) h⟩
theorem WishAt.wx {C W : Addr} {H H' : Hp} {p : Addr} {r : WishR} (hI : IsW H W) (x : Wx W H H') : WishAt C H p r → WishAt C H' p r := fun ⟨dx, h⟩ => ⟨dx, x.keep _ _ (ins_ne hI h) h⟩
def spRInit (C : Addr) : Sp := fun vs H Q _ => ∃ (p dx : Addr) (r : RuleR), vs = [.ref p, .int r.keep, .int r.worn, .int r.alone, .bl r.anew, .bl r.own, .bl r.common, .bl r.never, .bl r.strict] ∧ H p = some (.ins C dx []) ∧ Q .non (upd H p (.ins C dx (fR r)))
def spWInit (C : Addr) : Sp := fun vs H Q _ => ∃ (p dx : Addr) (r : WishR), vs = [.ref p, oV r.atmost, .int r.left, .int r.worn, .bl r.anew, .bl r.kept, .bl r.firm] ∧ H p = some (.ins C dx []) ∧ Q .non (upd H p (.ins C dx (fW r)))

section
variable {P : Program} {w : World} {K : PySem.W.Frag} {mg : Str → Option Value} {base : Heap}
theorem ok_law_well (T : Txt K mg) : FnOk P w K mg base CX0 1 T.f_law_well T.fd_law_well ["_law_cell"] spWell := by
  refine T.d_law_well.F.ok sc_law_well (fun vs H Q E h => ?_) (fun cdv A outer s H vs Q E hr h => ?_)
  · obtain ⟨n, rfl, _⟩ := h
    rfl
  · obtain ⟨n, rfl, q⟩ := h
    refine ⟨_, (pss_one (ps_ret (pe_lst (pa_cons (pe_op op_mul (pv 0) (pe_callTy call_int1 (by rfl) T.m_int (by decide +kernel) (pa_cons (pe_cmpR op_ge (pv 0) (pe_op op_pow pe_int pe_int) (nomark _)) pa_nil))) (pa_cons (pe_op op_mod (pv 0) pe_int) (pa_cons pe_int pa_nil)))))), ?_⟩
    refine ⟨.int n, rfl, .int n, rfl, 10, 18, rfl, rfl, ⟨by decide, by decide, by decide⟩, n, _, rfl, rfl, .inr ⟨_, rfl, n, _, rfl, rfl, ?_, .int n, rfl, n, _, rfl, rfl, (show (0 : Int) < 2147483647 by decide), ?_⟩⟩
    · refine .inr ?_
      split <;> decide
    · exact ⟨(by show 3 ≤ sizeLine; decide), fun p hp => q p _ _ _ hp⟩
theorem ok_law_draw (T : Txt K mg) : FnOk P w K mg base CX0 1 T.f_law_draw T.fd_law_draw ["_law_well_here", "_law_many"] spDraw := by
  refine T.d_law_draw.F.ok sc_law_draw (fun vs H Q E h => ?_) (fun cdv A outer s H vs Q E hr h => ?_)
  · obtain ⟨W, m, rfl, _⟩ := h
    rfl
  · obtain ⟨W, m, rfl, m0, m1, hI, q⟩ := h
    obtain ⟨a, b, c, hW⟩ := id hI
    have i0 : atI [V.int a, .int b, .int c] 0 = some (.int a) := rfl
    have i1 : atI [V.int a, .int b, .int c] 1 = some (.int b) := rfl
    have i2 : atI [V.int a, .int b, .int c] 2 = some (.int c) := rfl
    refine ⟨_, (pss_cons (ps_if (pt_cmpR op_gt (pe_ix ix_list (pv 0) pe_int (fun _ _ => rfl)) pe_int (nomark _))
      (pss_cons (ps_set (i := 2) sc_law_draw.nd rfl (.inl rfl) (pe_op op_mod (pe_ix ix_list (pv 0) pe_int (fun _ _ => rfl)) (pv 1)))
      (pss_cons (ps_asg (pe_op op_fdiv (pe_ix ix_list (pv 0) pe_int (fun _ _ => rfl)) (pv 1)) (pg_sub (pv 0) pe_int set_list))
      (pss_one (ps_ret (pv 2)))))
      pss_nil)
      (pss_cons (ps_asg (pe_op op_add (pe_ix ix_list (pv 0) pe_int (fun _ _ => rfl)) pe_int) (pg_sub (pv 0) pe_int set_list))
      (pss_cons (ps_set (i := 3) sc_law_draw.nd rfl (.inl rfl) (pe_op op_mod (pe_op op_mul (pe_op op_add (pe_op op_add (pe_ix ix_list (pv 0) pe_int (fun _ _ => rfl)) (pe_op op_mul pe_int (pe_ix ix_list (pv 0) pe_int (fun _ _ => rfl)))) pe_int) pe_int) pe_int))
      (pss_cons (ps_set (i := 3) sc_law_draw.nd rfl (.inl rfl) (pe_op op_mod (pe_op op_mul (pv 3) (pe_op op_add (pe_op op_fdiv (pv 3) pe_int) pe_int)) pe_int))
      (pss_one (ps_ret (pe_op op_mod (pe_op op_mod (pe_op op_mul (pv 3) (pe_op op_add (pe_op op_fdiv (pv 3) pe_int) pe_int)) pe_int) (pv 1)))))))), ?_⟩
    refine ⟨.ref W, rfl, W, _, 0, _, rfl, rfl, SqL.of hW, i0, a, 0, rfl, rfl, _, rfl, ite2 (fun e => ?_) (fun e => ?_)⟩
    · refine ⟨.ref W, rfl, W, _, 0, _, rfl, rfl, SqL.of hW, i0, .int m, rfl, a, m, rfl, rfl, m0, ?_⟩
      refine ⟨.ref W, rfl, W, _, 0, _, rfl, rfl, SqL.of hW, i0, .int m, rfl, a, m, rfl, rfl, ⟨m0, m1⟩, .ref W, rfl, W, _, 0, 0, rfl, rfl, hW, rfl, ?_⟩
      exact ⟨_, rfl, q _ _ (mod_lt m0).1 (mod_lt m0).2 ((Wx.refl hI).set _ _ _)⟩
    · refine ⟨.ref W, rfl, W, _, 2, _, rfl, rfl, SqL.of hW, i2, c, 1, rfl, rfl, .ref W, rfl, W, _, 2, 2, rfl, rfl, hW, rfl, ?_⟩
      have hW' : (upd H W (W3 a b (c + 1))) W = some (W3 a b (c + 1)) := upd_same
      have j1 : atI [V.int a, .int b, .int (c + 1)] 1 = some (.int b) := rfl
      have j2 : atI [V.int a, .int b, .int (c + 1)] 2 = some (.int (c + 1)) := rfl
      refine ⟨.ref W, rfl, W, _, 1, _, rfl, rfl, SqL.of hW', j1, .ref W, rfl, W, _, 2, _, rfl, rfl, SqL.of hW', j2, 7919, _, rfl, rfl, .inl (by decide), b, _, rfl, rfl, _, 1, rfl, rfl, _, 48271, rfl, rfl, .inr (by decide), _, 2147483647, rfl, rfl, (show (0 : Int) < 2147483647 by decide), ?_⟩
      refine ⟨_, rfl, _, rfl, _, 1009, rfl, rfl, ⟨by decide, by decide⟩, _, 69621, rfl, rfl, _, _, rfl, rfl, cmul_of (mod_lt (by decide)), _, 2147483647, rfl, rfl, (show (0 : Int) < 2147483647 by decide), ?_⟩
      refine ⟨_, rfl, _, rfl, _, 2003, rfl, rfl, ⟨by decide, by decide⟩, _, 40692, rfl, rfl, _, _, rfl, rfl, cmul_of (mod_lt (by decide)), _, 2147483399, rfl, rfl, (show (0 : Int) < 2147483399 by decide), .int m, rfl, _, m, rfl, rfl, m0, ?_⟩
      exact q _ _ (mod_lt m0).1 (mod_lt m0).2 ((Wx.refl hI).set _ _ _)

theorem ok_Rule_init (T : Txt K mg) : FnOk P w K mg base CX0 1 T.f_Rule_init T.fd_Rule_init ["self", "keep", "worn", "alone", "anew", "own", "common", "never", "strict"] (spRInit T.C_Rule) := by
  refine T.d_Rule_init.F.ok sc_Rule_init (fun vs H Q E h => ?_) (fun cdv A outer s H vs Q E hr h => ?_)
  · obtain ⟨p, dx, r, rfl, _⟩ := h
    rfl
  · obtain ⟨p, dx, r, rfl, hp, k⟩ := h
    refine ⟨_, (pss_cons (ps_fld (pv 0) (pv 1) rfl)
      (pss_cons (ps_fld (pv 0) (pv 2) rfl)
      (pss_cons (ps_fld (pv 0) (pv 3) rfl)
      (pss_cons (ps_fld (pv 0) (pv 4) rfl)
      (pss_cons (ps_fld (pv 0) (pv 5) rfl)
      (pss_cons (ps_fld (pv 0) (pv 6) rfl)
      (pss_cons (ps_fld (pv 0) (pv 7) rfl)
      (pss_one (ps_fld (pv 0) (pv 8) rfl))))))))), ?_⟩
    refine ⟨_, rfl, _, rfl, p, _, dx, [], rfl, hp, T.cl_Rule, T.n_Rule_keep, fewL few0 (by decide), ?_⟩
    refine ⟨_, rfl, _, rfl, p, _, dx, _, rfl, upd_same, T.cl_Rule, T.n_Rule_worn, fewL (few few0) (by decide), ?_⟩
    refine ⟨_, rfl, _, rfl, p, _, dx, _, rfl, upd_same, T.cl_Rule, T.n_Rule_alone, fewL (few (few few0)) (by decide), ?_⟩
    refine ⟨_, rfl, _, rfl, p, _, dx, _, rfl, upd_same, T.cl_Rule, T.n_Rule_anew, fewL (few (few (few few0))) (by decide), ?_⟩
    refine ⟨_, rfl, _, rfl, p, _, dx, _, rfl, upd_same, T.cl_Rule, T.n_Rule_own, fewL (few (few (few (few few0)))) (by decide), ?_⟩
    refine ⟨_, rfl, _, rfl, p, _, dx, _, rfl, upd_same, T.cl_Rule, T.n_Rule_common, fewL (few (few (few (few (few few0))))) (by decide), ?_⟩
    refine ⟨_, rfl, _, rfl, p, _, dx, _, rfl, upd_same, T.cl_Rule, T.n_Rule_never, fewL (few (few (few (few (few (few few0)))))) (by decide), ?_⟩
    refine ⟨_, rfl, _, rfl, p, _, dx, _, rfl, upd_same, T.cl_Rule, T.n_Rule_strict, fewL (few (few (few (few (few (few (few few0))))))) (by decide), ?_⟩
    simp only [upd_upd]
    exact k
theorem ok_Wish_init (T : Txt K mg) : FnOk P w K mg base CX0 1 T.f_Wish_init T.fd_Wish_init ["self", "atmost", "left", "worn", "anew", "kept", "firm"] (spWInit T.C_Wish) := by
  refine T.d_Wish_init.F.ok sc_Wish_init (fun vs H Q E h => ?_) (fun cdv A outer s H vs Q E hr h => ?_)
  · obtain ⟨p, dx, r, rfl, _⟩ := h
    rfl
  · obtain ⟨p, dx, r, rfl, hp, k⟩ := h
    refine ⟨_, (pss_cons (ps_fld (pv 0) (pv 1) rfl)
      (pss_cons (ps_fld (pv 0) (pv 2) rfl)
      (pss_cons (ps_fld (pv 0) (pv 3) rfl)
      (pss_cons (ps_fld (pv 0) (pv 4) rfl)
      (pss_cons (ps_fld (pv 0) (pv 5) rfl)
      (pss_one (ps_fld (pv 0) (pv 6) rfl))))))), ?_⟩
    refine ⟨_, rfl, _, rfl, p, _, dx, [], rfl, hp, T.cl_Wish, T.n_Wish_atmost, fewL few0 (by decide), ?_⟩
    refine ⟨_, rfl, _, rfl, p, _, dx, _, rfl, upd_same, T.cl_Wish, T.n_Wish_left, fewL (few few0) (by decide), ?_⟩
    refine ⟨_, rfl, _, rfl, p, _, dx, _, rfl, upd_same, T.cl_Wish, T.n_Wish_worn, fewL (few (few few0)) (by decide), ?_⟩
    refine ⟨_, rfl, _, rfl, p, _, dx, _, rfl, upd_same, T.cl_Wish, T.n_Wish_anew, fewL (few (few (few few0))) (by decide), ?_⟩
    refine ⟨_, rfl, _, rfl, p, _, dx, _, rfl, upd_same, T.cl_Wish, T.n_Wish_kept, fewL (few (few (few (few few0)))) (by decide), ?_⟩
    refine ⟨_, rfl, _, rfl, p, _, dx, _, rfl, upd_same, T.cl_Wish, T.n_Wish_firm, fewL (few (few (few (few (few few0))))) (by decide), ?_⟩
    simp only [upd_upd]
    exact k

end
end My
namespace My
open PySem PySem.Spec PyProof.Rows L2 TL
section
variable {P : Program} {w : World} {K : PySem.W.Frag} {mg : Str → Option Value} {base : Heap}
def overM (w : WishR) (age : Int) : Bool := match w.atmost with
  | none => false
  | some m => decide (age > m)
def let7 (r : RuleR) (w : WishR) (age : Int) : Str := if decide (age < r.keep + r.worn) = true then "worn" else "over"
def let6 (r : RuleR) (w : WishR) (age : Int) : Str := if decide (age < r.keep + w.worn) = true then "let" else let7 r w age
def let5 (r : RuleR) (w : WishR) (age : Int) : Str := if (r.strict || w.firm) = true then "firm" else let6 r w age
def let4 (r : RuleR) (w : WishR) (age : Int) : Str := if decide (w.left > 0) = true then "left" else let5 r w age
def let3 (r : RuleR) (w : WishR) (age : Int) : Str := if decide (age + w.left < r.keep) = true then "fresh" else let4 r w age
def let2 (r : RuleR) (w : WishR) (age : Int) : Str := if overM w age = true then "old" else let3 r w age
def letW (r : RuleR) (w : WishR) (age : Int) : Str := if (r.anew || w.anew) = true then "anew" else let2 r w age
def spLets (C D : Addr) : Sp := fun vs H Q _ => ∃ (p q : Addr) (r : RuleR) (w : WishR) (age : Int), vs = [.ref p, .ref q, .int age] ∧ RuleAt C H p r ∧ WishAt D H q w ∧ Q (.str (letW r w age)) H
theorem ok_lets (T : Txt K mg) : FnOk P w K mg base CX0 1 T.f_lets T.fd_lets ["rule", "wish", "age"] (spLets T.C_Rule T.C_Wish) := by
  refine T.d_lets.F.ok sc_lets (fun vs H Q E h => ?_) (fun cdv A outer s H vs Q E hr h => ?_)
  · obtain ⟨p, q, r, w, age, rfl, _⟩ := h
    rfl
  · obtain ⟨p, q, r, w, age, rfl, ⟨dx, hp⟩, ⟨dy, hq⟩, k⟩ := h
    refine ⟨_, (pss_cons (ps_if (pt_pure (PW.pt (pw_or (pt_val (pe_fld (pv 0) rfl)) (pw_or1 (pt_val (pe_fld (pv 1) rfl))))))
      (pss_one (ps_ret pe_str))
      pss_nil)
      (pss_cons (ps_if (pt_pure (PW.pt (pw_and (pt_cmpR op_notN (pe_fld (pv 1) rfl) pe_non (nomark _)) (pw_and1 (pt_cmpR op_gt (pv 2) (pe_fld (pv 1) rfl) (nomark _))))))
      (pss_one (ps_ret pe_str))
      pss_nil)
      (pss_cons (ps_if (pt_cmpR op_lt (pe_op op_add (pv 2) (pe_fld (pv 1) rfl)) (pe_fld (pv 0) rfl) (nomark _))
      (pss_one (ps_ret pe_str))
      pss_nil)
      (pss_cons (ps_if (pt_cmpR op_gt (pe_fld (pv 1) rfl) pe_int (nomark _))
      (pss_one (ps_ret pe_str))
      pss_nil)
      (pss_cons (ps_if (pt_pure (PW.pt (pw_or (pt_val (pe_fld (pv 0) rfl)) (pw_or1 (pt_val (pe_fld (pv 1) rfl))))))
      (pss_one (ps_ret pe_str))
      pss_nil)
      (pss_cons (ps_if (pt_cmpR op_lt (pv 2) (pe_op op_add (pe_fld (pv 0) rfl) (pe_fld (pv 1) rfl)) (nomark _))
      (pss_one (ps_ret pe_str))
      pss_nil)
      (pss_cons (ps_if (pt_cmpR op_lt (pv 2) (pe_op op_add (pe_fld (pv 0) rfl) (pe_fld (pv 0) rfl)) (nomark _))
      (pss_one (ps_ret pe_str))
      pss_nil)
      (pss_one (ps_ret pe_str))))))))), ?_⟩
    unfold letW at k
    refine ⟨(r.anew || w.anew), ?_, ite2 (fun e => ?_) (fun e => ?_)⟩
    · refine ⟨_, rfl, p, _, dx, _, _, rfl, hp, T.cl_Rule, T.n_Rule_anew, fR_anew r, _, rfl, ite2 (fun e => ?_) (fun e => ?_)⟩
      · rw [e]
        exact ⟨rfl, rfl⟩
      · exact ⟨_, rfl, q, _, dy, _, _, rfl, hq, T.cl_Wish, T.n_Wish_anew, fW_anew w, _, rfl, by rw [show r.anew = false by simpa using e]; rfl, rfl⟩
    · rw [if_pos e] at k
      exact k
    rw [if_neg e] at k
    unfold let2 at k
    refine ⟨overM w age, ?_, ite2 (fun e => ?_) (fun e => ?_)⟩
    · unfold overM
      refine ⟨_, rfl, q, _, dy, _, _, rfl, hq, T.cl_Wish, T.n_Wish_atmost, fW_atmost w, rfl, ?_⟩
      cases hm : w.atmost with
      | none => exact ⟨false, rfl, rfl, rfl⟩
      | some m => exact ⟨true, rfl, _, rfl, _, rfl, q, _, dy, _, _, rfl, hq, T.cl_Wish, T.n_Wish_atmost, by rw [fW_atmost w, hm]; rfl, _, m, rfl, rfl, _, rfl, rfl, rfl⟩
    · rw [if_pos e] at k
      exact k
    rw [if_neg e] at k
    unfold let3 at k
    refine ⟨_, rfl, _, rfl, q, _, dy, _, _, rfl, hq, T.cl_Wish, T.n_Wish_left, fW_left w, age, w.left, rfl, rfl, _, rfl, p, _, dx, _, _, rfl, hp, T.cl_Rule, T.n_Rule_keep, fR_keep r, _, _, rfl, rfl, _, rfl, ite2 (fun e => ?_) (fun e => ?_)⟩
    · rw [if_pos e] at k
      exact k
    rw [if_neg e] at k
    unfold let4 at k
    refine ⟨_, rfl, q, _, dy, _, _, rfl, hq, T.cl_Wish, T.n_Wish_left, fW_left w, _, _, rfl, rfl, _, rfl, ite2 (fun e => ?_) (fun e => ?_)⟩
    · rw [if_pos e] at k
      exact k
    rw [if_neg e] at k
    unfold let5 at k
    refine ⟨(r.strict || w.firm), ?_, ite2 (fun e => ?_) (fun e => ?_)⟩
    · refine ⟨_, rfl, p, _, dx, _, _, rfl, hp, T.cl_Rule, T.n_Rule_strict, fR_strict r, _, rfl, ite2 (fun e => ?_) (fun e => ?_)⟩
      · rw [e]
        exact ⟨rfl, rfl⟩
      · exact ⟨_, rfl, q, _, dy, _, _, rfl, hq, T.cl_Wish, T.n_Wish_firm, fW_firm w, _, rfl, by rw [show r.strict = false by simpa using e]; rfl, rfl⟩
    · rw [if_pos e] at k
      exact k
    rw [if_neg e] at k
    unfold let6 at k
    refine ⟨_, rfl, _, rfl, p, _, dx, _, _, rfl, hp, T.cl_Rule, T.n_Rule_keep, fR_keep r, _, rfl, q, _, dy, _, _, rfl, hq, T.cl_Wish, T.n_Wish_worn, fW_worn w, _, _, rfl, rfl, _, _, rfl, rfl, _, rfl, ite2 (fun e => ?_) (fun e => ?_)⟩
    · rw [if_pos e] at k
      exact k
    rw [if_neg e] at k
    unfold let7 at k
    refine ⟨_, rfl, _, rfl, p, _, dx, _, _, rfl, hp, T.cl_Rule, T.n_Rule_keep, fR_keep r, _, rfl, p, _, dx, _, _, rfl, hp, T.cl_Rule, T.n_Rule_worn, fR_worn r, _, _, rfl, rfl, _, _, rfl, rfl, _, rfl, ite2 (fun e => ?_) (fun e => ?_)⟩
    · rw [if_pos e] at k
      exact k
    · rw [if_neg e] at k
      exact k

end
end My
namespace My
open PySem PySem.Spec PyProof.Rows L2 TL
def vR (r : RuleR) : List V := [.int r.keep, .int r.worn, .int r.alone, .bl r.anew, .bl r.own, .bl r.common, .bl r.never, .bl r.strict]
def vW (w : WishR) : List V := [oV w.atmost, .int w.left, .int w.worn, .bl w.anew, .bl w.kept, .bl w.firm]
theorem five {bs : List Bool} (h : bs.length = 5) : ∃ a b c d e, bs = [a, b, c, d, e] := match bs, h with
  | [a, b, c, d, e], _ => ⟨a, b, c, d, e, rfl⟩
theorem three {bs : List Bool} (h : bs.length = 3) : ∃ a b c, bs = [a, b, c] := match bs, h with
  | [a, b, c], _ => ⟨a, b, c, rfl⟩
section
variable {P : Program} {w : World} {K : PySem.W.Frag} {mg : Str → Option Value} {base : Heap}
def spNumber : Sp := fun vs H Q _ => ∃ (W : Addr), vs = [.ref W] ∧ IsW H W ∧ ∀ n H', Wx W H H' → Q (.int n) H'
theorem ok_law_number (T : Txt K mg) : FnOk P w K mg base CX0 2 T.f_law_number T.fd_law_number ["_law_well_here"] spNumber := by
  refine T.d_law_number.F.ok sc_law_number (fun vs H Q E h => ?_) (fun cdv A outer s H vs Q E hr h => ?_)
  · obtain ⟨W, rfl, _⟩ := h
    rfl
  · obtain ⟨W, rfl, hI, q⟩ := h
    refine ⟨_, (pss_cons (ps_set (i := 1) sc_law_number.nd rfl (.inl rfl) (pe_call (ok_law_draw T) (hr.mono (by decide)) (by rfl) T.d_law_draw.g T.d_law_draw.F.kp T.d_law_draw.b .nil pass0 (pa_cons (pv 0) (pa_cons pe_int pa_nil))))
      (pss_cons (ps_if (pt_cmpR op_eq (pv 1) pe_int (nomark _))
      (pss_cons (ps_set (i := 2) sc_law_number.nd rfl (.inl rfl) pe_int)
      (pss_cons (ps_for PassesOwn.never rfl (pi_range1 (by rfl) T.m_range (pa_cons pe_int pa_nil)) (pg_name (i := 3) sc_law_number.nd rfl (.inl rfl))
      (pss_one (ps_set (i := 2) sc_law_number.nd rfl (.inl rfl) (pe_op op_add (pe_op op_mul (pv 2) (pe_op op_pow pe_int pe_int)) (pe_call (ok_law_draw T) (hr.mono (by decide)) (by rfl) T.d_law_draw.g T.d_law_draw.F.kp T.d_law_draw.b .nil pass0 (pa_cons (pv 0) (pa_cons (pe_op op_pow pe_int pe_int) pa_nil)))))))
      (pss_one (ps_ret (pv 2)))))
      pss_nil)
      (pss_one (ps_ret (pe_ix ix_list (pe_lst (pa_cons pe_int (pa_cons pe_int (pa_cons pe_int (pa_cons (pe_call (ok_law_draw T) (hr.mono (by decide)) (by rfl) T.d_law_draw.g T.d_law_draw.F.kp T.d_law_draw.b .nil pass0 (pa_cons (pv 0) (pa_cons pe_int pa_nil))) (pa_cons (pe_call (ok_law_draw T) (hr.mono (by decide)) (by rfl) T.d_law_draw.g T.d_law_draw.F.kp T.d_law_draw.b .nil pass0 (pa_cons (pv 0) (pa_cons pe_int pa_nil))) (pa_cons (pe_call (ok_law_draw T) (hr.mono (by decide)) (by rfl) T.d_law_draw.g T.d_law_draw.F.kp T.d_law_draw.b .nil pass0 (pa_cons (pv 0) (pa_cons pe_int pa_nil))) (pa_cons (pe_op op_pow pe_int pe_int) pa_nil)))))))) (pe_op op_sub (pv 1) pe_int) (fun _ _ => rfl)))))), ?_⟩
    refine ⟨.ref W, rfl, W, 8, rfl, by decide, by decide, hI, fun lot H1 l0 l1 x1 => ⟨_, rfl, rfl, _, rfl, ite2 (fun e => ?_) (fun e => ?_)⟩⟩
    · refine ⟨7, rfl, by decide, by decide, for_range (lo := 0) (n := 7) (fun i σ H' => ∃ n : Int, Wx W H H' ∧ ∃ y, σ = [some (.ref W), some (.int lot), some (.int n), y]) ⟨0, x1, none, rfl⟩ ?_ ?_⟩
      · rintro i σ H2 hi ⟨n, x2, y, rfl⟩
        exact ⟨.int n, rfl, 10, 8, rfl, rfl, ⟨by decide, by decide, by decide⟩, n, _, rfl, rfl, .inr ⟨by decide, by decide⟩, .ref W, rfl, 10, 8, rfl, rfl, ⟨by decide, by decide, by decide⟩, W, _, rfl, by decide, by decide, x2.well, fun r H3 r0 r1 x3 => ⟨_, r, rfl, rfl, _, x2.trans x3, _, rfl⟩⟩
      · rintro σ H2 ⟨n, x2, y, rfl⟩
        exact ⟨_, rfl, q n H2 x2⟩
    · have e0 : ¬ lot = 0 := fun z => e (decide_eq_true (by rw [z]))
      refine ⟨.ref W, rfl, W, 10, rfl, by decide, by decide, x1.well, fun a H2 _ _ x2 => ⟨.ref W, rfl, W, 10, rfl, by decide, by decide, x2.well, fun b H3 _ _ x3 => ⟨.ref W, rfl, W, 100, rfl, by decide, by decide, x3.well, fun c H4 _ _ x4 => ⟨10, 58, rfl, rfl, ⟨by decide, by decide, by decide⟩, (by show 7 ≤ sizeLine; decide), fun p hp => ?_⟩⟩⟩⟩
      obtain ⟨n, hn, en⟩ := ints_at (ns := [0, 1, 0, a, b, c, 10 ^ (58 : Int).toNat]) (r := lot - 1) (by omega) (by show lot - 1 < 7; omega)
      exact ⟨_, rfl, lot, 1, rfl, rfl, p, _, _, _, rfl, rfl, SqL.of upd_same, en, q n _ ((((x1.trans x2).trans x3).trans x4).new hp)⟩

def spFields : Sp := fun vs H Q _ => ∃ (W : Addr), vs = [.ref W] ∧ IsW H W ∧ ∀ p r w H', H p = none → Wx W H H' → H' p = some (.lst (vR r ++ vW w)) → Q (.ref p) H'
theorem ok_law_fields (T : Txt K mg) : FnOk P w K mg base CX0 3 T.f_law_fields T.fd_law_fields ["_law_well_here"] spFields := by
  refine T.d_law_fields.F.ok sc_law_fields (fun vs H Q E h => ?_) (fun cdv A outer s H vs Q E hr h => ?_)
  · obtain ⟨W, rfl, _⟩ := h
    rfl
  · obtain ⟨W, rfl, hI, q⟩ := h
    refine ⟨_, (pss_cons (ps_set (i := 1) sc_law_fields.nd rfl (.inl rfl) (pe_lst (pa_cons (pe_call (ok_law_number T) (hr.mono (by decide)) (by rfl) T.d_law_number.g T.d_law_number.F.kp T.d_law_number.b .nil pass0 (pa_cons (pv 0) pa_nil)) (pa_cons (pe_call (ok_law_number T) (hr.mono (by decide)) (by rfl) T.d_law_number.g T.d_law_number.F.kp T.d_law_number.b .nil pass0 (pa_cons (pv 0) pa_nil)) (pa_cons (pe_call (ok_law_number T) (hr.mono (by decide)) (by rfl) T.d_law_number.g T.d_law_number.F.kp T.d_law_number.b .nil pass0 (pa_cons (pv 0) pa_nil)) pa_nil)))))
      (pss_cons (ps_set (i := 1) sc_law_fields.nd rfl (.inl rfl) (pe_op op_cat (pv 1) (pe_lc (own := [("_law_k", 2)]) (g := gName 2) (tt := tYes) (by rfl) sc_law_fields.nd (pi_range1 (by rfl) T.m_range (pa_cons pe_int pa_nil)) (blkOk_by (own := [("_law_k", 2)]) (N := ["_law_well_here", "_law_found", "_law_k"]) (sc := defScope s_law_fields) (by decide +kernel)) (fun _ _ _ _ _ => (pg_name (i := 2) sc_law_fields.nd rfl (Or.inl rfl))) (fun _ _ _ _ _ => pts_nil) (fun _ _ _ _ _ => (pe_cmpR op_eq (pe_call (ok_law_draw T) (hr.mono (by decide)) (by rfl) T.d_law_draw.g T.d_law_draw.F.kp T.d_law_draw.b .nil pass0 (pa_cons (pv 0) (pa_cons pe_int pa_nil))) pe_int (nomark _))))))
      (pss_cons (ps_expr (pe_bm PySem.F.plainAttrs_list PySem.F.slot_list_append PySem.F.type_list_append mt_append (pv 1) (pa_cons (pe_ix ix_list (pe_lst (pa_cons pe_non (pa_cons pe_non (pa_cons (pe_call (ok_law_number T) (hr.mono (by decide)) (by rfl) T.d_law_number.g T.d_law_number.F.kp T.d_law_number.b .nil pass0 (pa_cons (pv 0) pa_nil)) pa_nil)))) (pe_call (ok_law_draw T) (hr.mono (by decide)) (by rfl) T.d_law_draw.g T.d_law_draw.F.kp T.d_law_draw.b .nil pass0 (pa_cons (pv 0) (pa_cons pe_int pa_nil))) (fun _ _ => rfl)) pa_nil)))
      (pss_cons (ps_expr (pe_bm PySem.F.plainAttrs_list PySem.F.slot_list_append PySem.F.type_list_append mt_append (pv 1) (pa_cons (pe_op op_mul (pe_call (ok_law_number T) (hr.mono (by decide)) (by rfl) T.d_law_number.g T.d_law_number.F.kp T.d_law_number.b .nil pass0 (pa_cons (pv 0) pa_nil)) (pe_op op_fdiv (pe_call (ok_law_draw T) (hr.mono (by decide)) (by rfl) T.d_law_draw.g T.d_law_draw.F.kp T.d_law_draw.b .nil pass0 (pa_cons (pv 0) (pa_cons pe_int pa_nil))) pe_int)) pa_nil)))
      (pss_cons (ps_expr (pe_bm PySem.F.plainAttrs_list PySem.F.slot_list_append PySem.F.type_list_append mt_append (pv 1) (pa_cons (pe_call (ok_law_number T) (hr.mono (by decide)) (by rfl) T.d_law_number.g T.d_law_number.F.kp T.d_law_number.b .nil pass0 (pa_cons (pv 0) pa_nil)) pa_nil)))
      (pss_one (ps_ret (pe_op op_cat (pv 1) (pe_lc (own := [("_law_k", 2)]) (g := gName 2) (tt := tYes) (by rfl) sc_law_fields.nd (pi_range1 (by rfl) T.m_range (pa_cons pe_int pa_nil)) (blkOk_by (own := [("_law_k", 2)]) (N := ["_law_well_here", "_law_found", "_law_k"]) (sc := defScope s_law_fields) (by decide +kernel)) (fun _ _ _ _ _ => (pg_name (i := 2) sc_law_fields.nd rfl (Or.inl rfl))) (fun _ _ _ _ _ => pts_nil) (fun _ _ _ _ _ => (pe_cmpR op_eq (pe_call (ok_law_draw T) (hr.mono (by decide)) (by rfl) T.d_law_draw.g T.d_law_draw.F.kp T.d_law_draw.b .nil pass0 (pa_cons (pv 0) (pa_cons pe_int pa_nil))) pe_int (nomark _)))))))))))), ?_⟩
    refine ⟨.ref W, rfl, W, rfl, hI, fun n1 H1 x1 => ⟨.ref W, rfl, W, rfl, x1.well, fun n2 H2 x2 => ⟨.ref W, rfl, W, rfl, x2.well, fun n3 H3 x3 => ⟨(by show 3 ≤ sizeLine; decide), fun p1 h1 => ?_⟩⟩⟩⟩
    have x13 := (x1.trans x2).trans x3
    have y1 := x13.new (o := .lst [.int n1, .int n2, .int n3]) h1
    have nW1 : W ≠ p1 := x3.well.ne h1
    refine ⟨.ref p1, rfl, 5, rfl, by decide, by decide, fun D hD => ?_⟩
    have nWD : W ≠ D := y1.well.ne hD
    have hD0 : H D = none := y1.free hD
    have n1D : p1 ≠ D := ne_of_none upd_same hD
    refine lc_range (lo := 0) (n := 5) (fun i H' => ∃ bs : List Bool, bs.length = i ∧ Wx W H H' ∧ H' p1 = some (.lst [.int n1, .int n2, .int n3]) ∧ H' D = some (.lst (bs.map V.bl))) ⟨[], rfl, y1.new hD, by rw [upd_ne n1D, upd_same], upd_same⟩ ?_ ?_
    · rintro i H' hi ⟨bs, bn, x, e1, eD⟩
      refine ⟨rfl, .ref W, rfl, W, 5, rfl, by decide, by decide, x.well, fun r H5 r0 r1 x5 => ⟨rfl, _, x5.keep D _ nWD.symm eD, by rw [List.length_map]; exact szlt (by omega), bs ++ [decide (V.int r = V.int 0)], by rw [List.length_append, bn]; rfl, (x.trans x5).mut hD0 nWD, by rw [upd_ne n1D]; exact x5.keep _ _ nW1.symm e1, by rw [upd_same, List.map_append]; rfl⟩⟩
    rintro H4 ⟨bs, bn, x4, e1, eD⟩
    obtain ⟨b1, b2, b3, b4, b5, rfl⟩ := five bn
    refine ⟨p1, D, _, _, rfl, rfl, e1, eD, (by show 8 ≤ sizeLine; decide), fun p2 h2 => ?_⟩
    have nW2 : W ≠ p2 := x4.well.ne h2
    have h20 : H p2 = none := x4.free h2
    have y2 := x4.new (o := .lst [.int n1, .int n2, .int n3, .bl b1, .bl b2, .bl b3, .bl b4, .bl b5]) h2
    -- atmost
    refine ⟨.ref p2, rfl, .inl ⟨rfl, _, SqL.of upd_same⟩, .ref W, rfl, W, rfl, y2.well, fun n4 H5 x5 => ⟨(by show 3 ≤ sizeLine; decide), fun l hl => ?_⟩⟩
    have e25 := x5.keep p2 _ nW2.symm upd_same
    have y5 := (y2.trans x5).new (o := .lst [.non, .non, .int n4]) hl
    have n2l : p2 ≠ l := ne_of_none e25 hl
    have nWl : W ≠ l := x5.well.ne hl
    refine ⟨.ref W, rfl, W, 3, rfl, by decide, by decide, y5.well, fun r6 H6 r60 r61 x6 => ?_⟩
    obtain ⟨am, eam⟩ : ∃ am : Option Int, atI [V.non, V.non, V.int n4] r6 = some (oV am) := by
      have h012 : r6 = 0 ∨ r6 = 1 ∨ r6 = 2 := by omega
      rcases h012 with rfl | rfl | rfl
      · exact ⟨none, rfl⟩
      · exact ⟨none, rfl⟩
      · exact ⟨some n4, rfl⟩
    have e26 := x6.keep p2 _ nW2.symm (show (upd H5 l (.lst [.non, .non, .int n4])) p2 = _ by rw [upd_ne n2l]; exact e25)
    refine ⟨l, _, _, _, rfl, rfl, SqL.of (x6.keep l _ nWl.symm upd_same), eam, p2, _, _, rfl, rfl, e26, (by show 8 < sizeLine; decide), ?_⟩
    have y6 := (y5.trans x6).mut (o := .lst ([V.int n1, .int n2, .int n3, .bl b1, .bl b2, .bl b3, .bl b4, .bl b5] ++ [oV am])) h20 nW2
    -- left
    refine ⟨.ref p2, rfl, .inl ⟨rfl, _, SqL.of upd_same⟩, .ref W, rfl, W, rfl, y6.well, fun n7 H7 x7 => ⟨.ref W, rfl, W, 3, rfl, by decide, by decide, x7.well, fun r8 H8 r80 r81 x8 => ⟨r8, 2, rfl, rfl, ⟨by decide, by decide⟩, n7, _, rfl, rfl, .inr (by constructor <;> omega), ?_⟩⟩⟩
    have e28 := x8.keep p2 _ nW2.symm (x7.keep p2 _ nW2.symm upd_same)
    refine ⟨p2, _, _, rfl, rfl, e28, (by show 9 < sizeLine; decide), ?_⟩
    have y8 := ((y6.trans x7).trans x8).mut (o := .lst ([V.int n1, .int n2, .int n3, .bl b1, .bl b2, .bl b3, .bl b4, .bl b5] ++ [oV am] ++ [.int (n7 * (r8 / 2))])) h20 nW2
    -- worn
    refine ⟨.ref p2, rfl, .inl ⟨rfl, _, SqL.of upd_same⟩, .ref W, rfl, W, rfl, y8.well, fun n9 H9 x9 => ?_⟩
    refine ⟨p2, _, _, rfl, rfl, x9.keep p2 _ nW2.symm upd_same, (by show 10 < sizeLine; decide), ?_⟩
    have y9 := (y8.trans x9).mut (o := .lst ([V.int n1, .int n2, .int n3, .bl b1, .bl b2, .bl b3, .bl b4, .bl b5] ++ [oV am] ++ [.int (n7 * (r8 / 2))] ++ [.int n9])) h20 nW2
    refine ⟨.ref p2, rfl, 3, rfl, by decide, by decide, fun E hE => ?_⟩
    have nWE : W ≠ E := y9.well.ne hE
    have hE0 : H E = none := y9.free hE
    have n2E : p2 ≠ E := ne_of_none upd_same hE
    refine lc_range (lo := 0) (n := 3) (fun i H' => ∃ bs : List Bool, bs.length = i ∧ Wx W H H' ∧ H' p2 = some (.lst ([V.int n1, .int n2, .int n3, .bl b1, .bl b2, .bl b3, .bl b4, .bl b5] ++ [oV am] ++ [.int (n7 * (r8 / 2))] ++ [.int n9])) ∧ H' E = some (.lst (bs.map V.bl))) ⟨[], rfl, y9.new hE, (upd_ne n2E).trans upd_same, upd_same⟩ ?_ ?_
    · rintro i H' hi ⟨bs, bn, x, e1, eD⟩
      refine ⟨rfl, .ref W, rfl, W, 5, rfl, by decide, by decide, x.well, fun r H5 r0 r1 x5 => ⟨rfl, _, x5.keep E _ nWE.symm eD, by rw [List.length_map]; exact szlt (by omega), bs ++ [decide (V.int r = V.int 0)], by rw [List.length_append, bn]; rfl, (x.trans x5).mut hE0 nWE, by rw [upd_ne n2E]; exact x5.keep _ _ nW2.symm e1, by rw [upd_same, List.map_append]; rfl⟩⟩
    rintro HA ⟨bs2, bn2, xA, eA, eE⟩
    obtain ⟨c1, c2, c3, rfl⟩ := three bn2
    refine ⟨p2, E, _, _, rfl, rfl, eA, eE, (by show 14 ≤ sizeLine; decide), fun p3 h3 => ?_⟩
    exact q p3 ⟨n1, n2, n3, b1, b2, b3, b4, b5⟩ ⟨am, n7 * (r8 / 2), n9, c1, c2, c3⟩ _ (xA.free h3) (xA.new h3) upd_same
end
end My
namespace My
open PySem PySem.Spec PyProof.Rows L2 TL
section
variable {P : Program} {w : World} {K : PySem.W.Frag} {mg : Str → Option Value} {base : Heap}
def spAges : Sp := fun vs H Q _ => ∃ (W s : Addr) (r : RuleR) (wi : WishR), vs = [.ref W, .ref s] ∧ IsW H W ∧ W ≠ s ∧ H s = some (.lst (vR r ++ vW wi)) ∧ ∀ p (as : List Int) H', Wx W H H' → H' p = some (.lst (as.map V.int)) → as.length ≤ 40 → Q (.ref p) H'
theorem ok_law_ages (T : Txt K mg) : FnOk P w K mg base CX0 2 T.f_law_ages T.fd_law_ages ["_law_well_here", "_law_some"] spAges := by
  refine T.d_law_ages.F.ok sc_law_ages (fun vs H Q E h => ?_) (fun cdv A outer s H vs Q E hr h => ?_)
  · obtain ⟨W, s, r, wi, rfl, _⟩ := h
    rfl
  · obtain ⟨W, s, r, wi, rfl, hI, nWs, hs, q⟩ := h
    have g0 : atI (vR r ++ vW wi) 0 = some (.int r.keep) := rfl
    have g1 : atI (vR r ++ vW wi) 1 = some (.int r.worn) := rfl
    have g2 : atI (vR r ++ vW wi) 2 = some (.int r.alone) := rfl
    have g3 : atI (vR r ++ vW wi) 3 = some (.bl r.anew) := rfl
    have g7 : atI (vR r ++ vW wi) 7 = some (.bl r.strict) := rfl
    have g8 : atI (vR r ++ vW wi) 8 = some (oV wi.atmost) := rfl
    have g9 : atI (vR r ++ vW wi) 9 = some (.int wi.left) := rfl
    have g10 : atI (vR r ++ vW wi) 10 = some (.int wi.worn) := rfl
    have g11 : atI (vR r ++ vW wi) 11 = some (.bl wi.anew) := rfl
    have g13 : atI (vR r ++ vW wi) 13 = some (.bl wi.firm) := rfl
    refine ⟨_, (pss_cons (ps_set (i := 2) sc_law_ages.nd rfl (.inl rfl) (pe_lst (pa_cons (pe_ix ix_list (pv 1) pe_int (fun _ _ => rfl)) (pa_cons (pe_op op_add (pe_ix ix_list (pv 1) pe_int (fun _ _ => rfl)) (pe_ix ix_list (pv 1) pe_int (fun _ _ => rfl))) (pa_cons (pe_op op_add (pe_ix ix_list (pv 1) pe_int (fun _ _ => rfl)) (pe_ix ix_list (pv 1) pe_int (fun _ _ => rfl))) (pa_cons (pe_op op_add (pe_ix ix_list (pv 1) pe_int (fun _ _ => rfl)) (pe_ix ix_list (pv 1) pe_int (fun _ _ => rfl))) (pa_cons (pe_op op_add (pe_ix ix_list (pv 1) pe_int (fun _ _ => rfl)) (pe_ix ix_list (pv 1) pe_int (fun _ _ => rfl))) pa_nil)))))))
      (pss_cons (ps_set (i := 2) sc_law_ages.nd rfl (.inl rfl) (pe_op op_cat (pv 2) (pe_lst (pa_cons (pe_op op_sub (pe_ix ix_list (pv 1) pe_int (fun _ _ => rfl)) (pe_ix ix_list (pv 1) pe_int (fun _ _ => rfl))) (pa_cons (pe_op op_add (pe_op op_add (pe_ix ix_list (pv 1) pe_int (fun _ _ => rfl)) (pe_ix ix_list (pv 1) pe_int (fun _ _ => rfl))) (pe_ix ix_list (pv 1) pe_int (fun _ _ => rfl))) (pa_cons (pe_ix ix_list (pv 1) pe_int (fun _ _ => rfl)) (pa_cons (pe_ix ix_list (pv 1) pe_int (fun _ _ => rfl)) pa_nil)))))))
      (Evl.pss_cut (ps_if (pt_cmpR op_notN (pe_ix ix_list (pv 1) pe_int (fun _ _ => rfl)) pe_non (nomark _))
      (pss_one (ps_set (i := 2) sc_law_ages.nd rfl (.inl rfl) (pe_op op_cat (pv 2) (pe_lst (pa_cons (pe_ix ix_list (pv 1) pe_int (fun _ _ => rfl)) (pa_cons (pe_op op_sub (pe_ix ix_list (pv 1) pe_int (fun _ _ => rfl)) (pe_ix ix_list (pv 1) pe_int (fun _ _ => rfl))) pa_nil))))))
      pss_nil)
      (pss_cons (ps_set (i := 3) sc_law_ages.nd rfl (.inl rfl) (pe_lst (pa_cons pe_int (pa_cons (pe_call (ok_law_draw T) (hr.mono (by decide)) (by rfl) T.d_law_draw.g T.d_law_draw.F.kp T.d_law_draw.b .nil pass0 (pa_cons (pv 0) (pa_cons pe_int pa_nil))) pa_nil))))
      (pss_cons (ps_for PassesOwn.never rfl (pi_list (pv 2)) (pg_name (i := 4) sc_law_ages.nd rfl (.inl rfl))
      (pss_one (ps_set (i := 3) sc_law_ages.nd rfl (.inl rfl) (pe_op op_cat (pv 3) (pe_lc (own := [("_law_age", 5)]) (g := gName 5) (by rfl) sc_law_ages.nd (pi_list (pe_lst (pa_cons (pe_op op_sub (pv 4) pe_int) (pa_cons (pv 4) (pa_cons (pe_op op_add (pv 4) pe_int) pa_nil))))) (blkOk_by (own := [("_law_age", 5)]) (N := ["_law_well_here", "_law_some", "_law_till", "_law_found", "_law_end", "_law_age"]) (sc := defScope s_law_ages) (by decide +kernel)) (fun _ _ _ _ _ => (pg_name (i := 5) sc_law_ages.nd rfl (Or.inl rfl))) (fun _ _ _ _ _ => (pts_one (pt_cmpR op_ge (pv 5) pe_int (nomark _)))) (fun _ _ _ _ _ => (pv 5)))))))
      (pss_one (ps_ret (pv 3)))))))), ?_⟩
    refine ⟨.ref s, rfl, s, _, 0, _, rfl, rfl, SqL.of hs, g0, .ref s, rfl, s, _, 0, _, rfl, rfl, SqL.of hs, g0, .ref s, rfl, s, _, 1, _, rfl, rfl, SqL.of hs, g1, _, _, rfl, rfl, .ref s, rfl, s, _, 0, _, rfl, rfl, SqL.of hs, g0, .ref s, rfl, s, _, 2, _, rfl, rfl, SqL.of hs, g2, _, _, rfl, rfl, .ref s, rfl, s, _, 0, _, rfl, rfl, SqL.of hs, g0, .ref s, rfl, s, _, 10, _, rfl, rfl, SqL.of hs, g10, _, _, rfl, rfl, .ref s, rfl, s, _, 0, _, rfl, rfl, SqL.of hs, g0, .ref s, rfl, s, _, 9, _, rfl, rfl, SqL.of hs, g9, _, _, rfl, rfl, (by show 5 ≤ sizeLine; decide), fun p1 h1 => ?_⟩
    have s1 := same_upd (o := .lst (([r.keep, r.keep + r.worn, r.keep + r.alone, r.keep + wi.worn, r.keep + wi.left] : List Int).map V.int)) h1
    have hs1 := s1 _ _ hs
    refine ⟨.ref p1, rfl, .ref s, rfl, s, _, 0, _, rfl, rfl, SqL.of hs1, g0, .ref s, rfl, s, _, 9, _, rfl, rfl, SqL.of hs1, g9, _, _, rfl, rfl, .ref s, rfl, s, _, 0, _, rfl, rfl, SqL.of hs1, g0, .ref s, rfl, s, _, 1, _, rfl, rfl, SqL.of hs1, g1, _, _, rfl, rfl, .ref s, rfl, s, _, 10, _, rfl, rfl, SqL.of hs1, g10, _, _, rfl, rfl, .ref s, rfl, s, _, 9, _, rfl, rfl, SqL.of hs1, g9, .ref s, rfl, s, _, 10, _, rfl, rfl, SqL.of hs1, g10, (by show 4 ≤ sizeLine; decide), fun p2 h2 => ?_⟩
    have s2 := same_upd (o := .lst (([r.keep - wi.left, r.keep + r.worn + wi.worn, wi.left, wi.worn] : List Int).map V.int)) h2
    refine ⟨p1, p2, _, _, rfl, rfl, s2 _ _ upd_same, upd_same, (by show 9 ≤ sizeLine; decide), fun p3 h3 => ?_⟩
    have s3 := same_upd (o := .lst (([r.keep, r.keep + r.worn, r.keep + r.alone, r.keep + wi.worn, r.keep + wi.left, r.keep - wi.left, r.keep + r.worn + wi.worn, wi.left, wi.worn] : List Int).map V.int)) h3
    have t3 := (s1.trans s2).trans s3
    have hs3 := t3 _ _ hs
    have x3 := (Wx.refl hI).same t3
    refine ⟨fun σ H' => ∃ (p4 : Addr) (till : List Int), σ = [some (.ref W), some (.ref s), some (.ref p4), none, none, none] ∧ Wx W H H' ∧ H' s = some (.lst (vR r ++ vW wi)) ∧ H' p4 = some (.lst (till.map V.int)) ∧ till.length ≤ 11 ∧ W ≠ p4, ?_, ?_⟩
    · refine ⟨.ref s, rfl, s, _, 8, _, rfl, rfl, SqL.of hs3, g8, rfl, ?_⟩
      cases hm : wi.atmost with
      | none => exact ⟨false, rfl, p3, [r.keep, r.keep + r.worn, r.keep + r.alone, r.keep + wi.worn, r.keep + wi.left, r.keep - wi.left, r.keep + r.worn + wi.worn, wi.left, wi.worn], rfl, x3, hs3, upd_same, (by show 9 ≤ 11; decide), (hI.ne ((s1.trans s2).free h3))⟩
      | some m =>
        rw [hm] at g8
        refine ⟨true, rfl, .ref p3, rfl, .ref s, rfl, s, _, 8, _, rfl, rfl, SqL.of hs3, g8, .ref s, rfl, s, _, 8, _, rfl, rfl, SqL.of hs3, g8, .ref s, rfl, s, _, 9, _, rfl, rfl, SqL.of hs3, g9, _, _, rfl, rfl, (by show 2 ≤ sizeLine; decide), fun p4 h4 => ?_⟩
        have s4 := same_upd (o := .lst (([m, m - wi.left] : List Int).map V.int)) h4
        refine ⟨p3, p4, _, _, rfl, rfl, s4 _ _ upd_same, upd_same, (by show 11 ≤ sizeLine; decide), fun p5 h5 => ?_⟩
        have s5 := same_upd (o := .lst (([r.keep, r.keep + r.worn, r.keep + r.alone, r.keep + wi.worn, r.keep + wi.left, r.keep - wi.left, r.keep + r.worn + wi.worn, wi.left, wi.worn, m, m - wi.left] : List Int).map V.int)) h5
        have t5 := (t3.trans s4).trans s5
        exact ⟨p5, [r.keep, r.keep + r.worn, r.keep + r.alone, r.keep + wi.worn, r.keep + wi.left, r.keep - wi.left, r.keep + r.worn + wi.worn, wi.left, wi.worn, m, m - wi.left], rfl, (Wx.refl hI).same t5, t5 _ _ hs, upd_same, Nat.le_refl 11, hI.ne ((t3.trans s4).free h5)⟩
    rintro σ H4 ⟨p4, till, rfl, x4, hs4, e4, l4, nW4⟩
    refine ⟨.ref W, rfl, W, 120, rfl, by decide, by decide, x4.well, fun r5 H5 _ _ x5 => ⟨(by show 2 ≤ sizeLine; decide), fun p6 h6 => ?_⟩⟩
    have e45 := x5.keep _ _ nW4.symm e4
    have s6 := same_upd (o := .lst (([0, r5] : List Int).map V.int)) h6
    have x6 := (x4.trans x5).same s6
    refine ⟨.ref p4, rfl, p4, rfl, ⟨_, SqL.of (s6 _ _ e45)⟩, for_list (K := K) (a := p4) (xs := till.map V.int) (fun i σ H' => Wx W H H' ∧ H' p4 = some (.lst (till.map V.int)) ∧ ∃ (pf : Addr) (as : List Int) (y : Option V), H' pf = some (.lst (as.map V.int)) ∧ as.length ≤ 2 + 3 * i ∧ σ = [some (.ref W), some (.ref s), some (.ref p4), some (.ref pf), y, none])
      ⟨x6, s6 _ _ e45, p6, [0, r5], none, upd_same, Nat.le_refl _, rfl⟩ (fun i σ H' _ pv => SqL.of pv.2.1) ?_ ?_⟩
    · rintro i x σ H7 hi ⟨x7, e7, pf, as, y, ef, la, rfl⟩
      obtain ⟨e, rfl⟩ := int_at hi
      have hil : i < till.length := by
        have := (List.getElem?_eq_some_iff.mp hi).1
        rwa [List.length_map] at this
      refine ⟨.ref pf, rfl, .int e, rfl, e, 1, rfl, rfl, .int e, rfl, .int e, rfl, e, 1, rfl, rfl, (by show 3 ≤ sizeLine; decide), fun l hl => ?_⟩
      have s8 := same_upd (o := .lst (([e - 1, e, e + 1] : List Int).map V.int)) hl
      refine ⟨l, rfl, ⟨_, SqL.of upd_same⟩, fun D hD => ?_⟩
      refine lc_list (K := K) (a := l) (xs := ([e - 1, e, e + 1] : List Int).map V.int) (fun j H' => Same (upd H7 l (.lst (([e - 1, e, e + 1] : List Int).map V.int))) H' ∧ ∃ zs : List Int, H' D = some (.lst (zs.map V.int)) ∧ zs.length ≤ j) ⟨same_upd hD, [], upd_same, Nat.le_refl _⟩ (fun j H' _ pv => SqL.of (pv.1 _ _ upd_same)) ?_ ?_
      · rintro j v H9 hj ⟨s9, zs, eD, lz⟩
        obtain ⟨n, rfl⟩ := int_at hj
        have hjl : j < 3 := (List.getElem?_eq_some_iff.mp hj).1
        refine ⟨rfl, .int n, rfl, n, 0, rfl, rfl, _, rfl, ite2 (fun _ => ?_) (fun _ => ?_)⟩
        · exact ⟨.int n, rfl, _, eD, by rw [List.length_map]; exact szlt (by omega), same_mut s9 hD, zs ++ [n], by rw [upd_same, List.map_append]; rfl, by rw [List.length_append]; show _ + 1 ≤ _; omega⟩
        · exact ⟨s9, zs, eD, by omega⟩
      · rintro H9 ⟨s9, zs, eD, lz⟩
        have lz3 : zs.length ≤ 3 := lz
        have t9 := s8.trans s9
        refine ⟨pf, D, _, _, rfl, rfl, t9 _ _ ef, eD, by rw [List.length_map, List.length_map]; exact szl (by omega), fun p10 h10 => ?_⟩
        have s10 := same_upd (o := .lst (as.map V.int ++ zs.map V.int)) h10
        have t10 := t9.trans s10
        exact ⟨x7.same t10, t10 _ _ e7, p10, as ++ zs, _, by rw [upd_same, List.map_append], by rw [List.length_append]; omega, rfl⟩
    · rintro σ H7 ⟨x7, e7, pf, as, y, ef, la, rfl⟩
      rw [List.length_map] at la
      exact ⟨.ref pf, rfl, q pf as H7 x7 ef (by omega)⟩
def wrd (b1 b2 b3 b4 b5 b6 b7 : Bool) : Str := if b1 = true then "anew" else if b2 = true then "old" else if b3 = true then "fresh" else if b4 = true then "left" else if b5 = true then "firm" else if b6 = true then "let" else if b7 = true then "worn" else "over"
theorem wrd_let (r : RuleR) (w : WishR) (age : Int) : letW r w age = wrd (r.anew || w.anew) (overM w age) (decide (age + w.left < r.keep)) (decide (w.left > 0)) (r.strict || w.firm) (decide (age < r.keep + w.worn)) (decide (age < r.keep + r.worn)) := rfl
def wrds : List V := [.str "anew", .str "old", .str "fresh", .str "left", .str "firm", .str "let", .str "worn", .str "over"]
theorem idx8 (b1 b2 b3 b4 b5 b6 b7 : Bool) : ∃ j : Nat, atI wrds (j : Int) = some (.str (wrd b1 b2 b3 b4 b5 b6 b7)) ∧ ([b1, b2, b3, b4, b5, b6, b7, true].map V.bl)[j]? = some (.bl true) ∧ ∀ (m : Nat) (z' : V), m < j → ([b1, b2, b3, b4, b5, b6, b7, true].map V.bl)[m]? = some z' → eqV z' (.bl true) = false := by
  have hl : [b1, b2, b3, b4, b5, b6, b7, true].findIdx id < [b1, b2, b3, b4, b5, b6, b7, true].length := List.findIdx_lt_length_of_exists ⟨true, by simp, rfl⟩
  refine ⟨[b1, b2, b3, b4, b5, b6, b7, true].findIdx id, ?_, ?_, fun m z' hm hz => ?_⟩
  · cases b1 <;> cases b2 <;> cases b3 <;> cases b4 <;> cases b5 <;> cases b6 <;> cases b7 <;> rfl
  · rw [List.getElem?_map, List.getElem?_eq_getElem hl]
    have := List.findIdx_getElem (w := hl)
    exact congrArg (fun b => some (V.bl b)) this
  · rw [List.getElem?_map, List.getElem?_eq_getElem (Nat.lt_trans hm hl)] at hz
    have := List.not_of_lt_findIdx hm
    cases hz
    show eqV (V.bl (id _)) (.bl true) = false
    rw [show id _ = false by simpa using this]
    rfl
def spDue : Sp := fun vs H Q _ => ∃ (s : Addr) (r : RuleR) (wi : WishR) (age : Int), vs = [.ref s, .int age] ∧ H s = some (.lst (vR r ++ vW wi)) ∧ ∀ H', Same H H' → Q (.str (letW r wi age)) H'
theorem ok_law_due (T : Txt K mg) : FnOk P w K mg base CX0 1 T.f_law_due T.fd_law_due ["_law_some", "_law_age"] spDue := by
  refine T.d_law_due.F.ok sc_law_due (fun vs H Q E h => ?_) (fun cdv A outer s H vs Q E hr h => ?_)
  · obtain ⟨s, r, wi, age, rfl, _⟩ := h
    rfl
  · obtain ⟨s, r, wi, age, rfl, hs, q⟩ := h
    have g0 : atI (vR r ++ vW wi) 0 = some (.int r.keep) := rfl
    have g1 : atI (vR r ++ vW wi) 1 = some (.int r.worn) := rfl
    have g2 : atI (vR r ++ vW wi) 2 = some (.int r.alone) := rfl
    have g3 : atI (vR r ++ vW wi) 3 = some (.bl r.anew) := rfl
    have g7 : atI (vR r ++ vW wi) 7 = some (.bl r.strict) := rfl
    have g8 : atI (vR r ++ vW wi) 8 = some (oV wi.atmost) := rfl
    have g9 : atI (vR r ++ vW wi) 9 = some (.int wi.left) := rfl
    have g10 : atI (vR r ++ vW wi) 10 = some (.int wi.worn) := rfl
    have g11 : atI (vR r ++ vW wi) 11 = some (.bl wi.anew) := rfl
    have g13 : atI (vR r ++ vW wi) 13 = some (.bl wi.firm) := rfl
    refine ⟨_, (pss_cons (ps_set (i := 2) sc_law_due.nd rfl (.inl rfl) (pe_lst (pa_cons (pe_pure (pe_or (pe_ix ix_list (pv 0) pe_int (fun _ _ => rfl)) (pe_one (pe_ix ix_list (pv 0) pe_int (fun _ _ => rfl))))) (pa_cons (pe_pure (pe_and (pe_cmpR op_notN (pe_ix ix_list (pv 0) pe_int (fun _ _ => rfl)) pe_non (nomark _)) (pe_one (pe_cmpR op_gt (pv 1) (pe_ix ix_list (pv 0) pe_int (fun _ _ => rfl)) (nomark _))))) (pa_cons (pe_cmpR op_lt (pe_op op_add (pv 1) (pe_ix ix_list (pv 0) pe_int (fun _ _ => rfl))) (pe_ix ix_list (pv 0) pe_int (fun _ _ => rfl)) (nomark _)) (pa_cons (pe_cmpR op_gt (pe_ix ix_list (pv 0) pe_int (fun _ _ => rfl)) pe_int (nomark _)) pa_nil))))))
      (pss_cons (ps_set (i := 2) sc_law_due.nd rfl (.inl rfl) (pe_op op_cat (pv 2) (pe_lst (pa_cons (pe_pure (pe_or (pe_ix ix_list (pv 0) pe_int (fun _ _ => rfl)) (pe_one (pe_ix ix_list (pv 0) pe_int (fun _ _ => rfl))))) (pa_cons (pe_cmpR op_lt (pv 1) (pe_op op_add (pe_ix ix_list (pv 0) pe_int (fun _ _ => rfl)) (pe_ix ix_list (pv 0) pe_int (fun _ _ => rfl))) (nomark _)) (pa_cons (pe_cmpR op_lt (pv 1) (pe_op op_add (pe_ix ix_list (pv 0) pe_int (fun _ _ => rfl)) (pe_ix ix_list (pv 0) pe_int (fun _ _ => rfl))) (nomark _)) (pa_cons pe_bl pa_nil)))))))
      (pss_one (ps_ret (pe_ix ix_list (pe_lst (pa_cons pe_str (pa_cons pe_str (pa_cons pe_str (pa_cons pe_str (pa_cons pe_str (pa_cons pe_str (pa_cons pe_str (pa_cons pe_str pa_nil))))))))) (pe_bm PySem.F.plainAttrs_list PySem.F.slot_list_index PySem.F.type_list_index mt_index (pv 2) (pa_cons pe_bl pa_nil)) (fun _ _ => rfl)))))), ?_⟩
    refine ⟨.bl (r.anew || wi.anew), ?_, .bl (overM wi age), ?_, .int age, rfl, .ref s, rfl, s, _, 9, _, rfl, rfl, SqL.of hs, g9, _, _, rfl, rfl, .ref s, rfl, s, _, 0, _, rfl, rfl, SqL.of hs, g0, _, _, rfl, rfl, .ref s, rfl, s, _, 9, _, rfl, rfl, SqL.of hs, g9, _, _, rfl, rfl, (by show 4 ≤ sizeLine; decide), fun p1 h1 => ?_⟩
    · refine ⟨.ref s, rfl, s, _, 3, _, rfl, rfl, SqL.of hs, g3, _, rfl, ite2 (fun e => ?_) (fun e => ?_)⟩
      · rw [e]
        exact ⟨rfl, rfl⟩
      · exact ⟨.ref s, rfl, s, _, 11, _, rfl, rfl, SqL.of hs, g11, by rw [show r.anew = false by simpa using e]; rfl, rfl⟩
    · unfold overM
      refine ⟨.ref s, rfl, s, _, 8, _, rfl, rfl, SqL.of hs, g8, rfl, ?_⟩
      cases hm : wi.atmost with
      | none => exact ⟨false, rfl, rfl, rfl⟩
      | some m =>
        rw [hm] at g8
        exact ⟨true, rfl, .int age, rfl, .ref s, rfl, s, _, 8, _, rfl, rfl, SqL.of hs, g8, _, m, rfl, rfl, rfl, rfl⟩
    have s1 := same_upd (o := .lst [.bl (r.anew || wi.anew), .bl (overM wi age), .bl (decide (age + wi.left < r.keep)), .bl (decide (wi.left > 0))]) h1
    have hs1 := s1 _ _ hs
    refine ⟨.ref p1, rfl, .bl (r.strict || wi.firm), ?_, .int age, rfl, .ref s, rfl, s, _, 0, _, rfl, rfl, SqL.of hs1, g0, .ref s, rfl, s, _, 10, _, rfl, rfl, SqL.of hs1, g10, _, _, rfl, rfl, _, _, rfl, rfl, .int age, rfl, .ref s, rfl, s, _, 0, _, rfl, rfl, SqL.of hs1, g0, .ref s, rfl, s, _, 1, _, rfl, rfl, SqL.of hs1, g1, _, _, rfl, rfl, _, _, rfl, rfl, (by show 4 ≤ sizeLine; decide), fun p2 h2 => ?_⟩
    · refine ⟨.ref s, rfl, s, _, 7, _, rfl, rfl, SqL.of hs1, g7, _, rfl, ite2 (fun e => ?_) (fun e => ?_)⟩
      · rw [e]
        exact ⟨rfl, rfl⟩
      · exact ⟨.ref s, rfl, s, _, 13, _, rfl, rfl, SqL.of hs1, g13, by rw [show r.strict = false by simpa using e]; rfl, rfl⟩
    have s2 := same_upd (o := .lst [.bl (r.strict || wi.firm), .bl (decide (age < r.keep + wi.worn)), .bl (decide (age < r.keep + r.worn)), .bl true]) h2
    refine ⟨p1, p2, _, _, rfl, rfl, s2 _ _ upd_same, upd_same, (by show 8 ≤ sizeLine; decide), fun p3 h3 => ?_⟩
    have s3 := same_upd (o := .lst ([(r.anew || wi.anew), overM wi age, decide (age + wi.left < r.keep), decide (wi.left > 0), (r.strict || wi.firm), decide (age < r.keep + wi.worn), decide (age < r.keep + r.worn), true].map V.bl)) h3
    refine ⟨(by show 8 ≤ sizeLine; decide), fun l hl => ?_⟩
    have s4 := same_upd (o := .lst wrds) hl
    obtain ⟨j, j1, j2, j3⟩ := idx8 (r.anew || wi.anew) (overM wi age) (decide (age + wi.left < r.keep)) (decide (wi.left > 0)) (r.strict || wi.firm) (decide (age < r.keep + wi.worn)) (decide (age < r.keep + r.worn))
    have e3 := s4 _ _ (show (upd (upd (upd H p1 (.lst [.bl (r.anew || wi.anew), .bl (overM wi age), .bl (decide (age + wi.left < r.keep)), .bl (decide (wi.left > 0))])) p2 (.lst [.bl (r.strict || wi.firm), .bl (decide (age < r.keep + wi.worn)), .bl (decide (age < r.keep + r.worn)), .bl true])) p3 (.lst ([(r.anew || wi.anew), overM wi age, decide (age + wi.left < r.keep), decide (wi.left > 0), (r.strict || wi.firm), decide (age < r.keep + wi.worn), decide (age < r.keep + r.worn), true].map V.bl))) p3 = _ from upd_same)
    refine ⟨.ref p3, rfl, .inl ⟨rfl, _, SqL.of e3⟩, p3, _, .bl true, j, .bl true, rfl, rfl, SqL.of e3, rfl, rfl, j2, rfl, j3, l, _, _, _, rfl, rfl, SqL.of upd_same, j1, q _ (((s1.trans s2).trans s3).trans s4)⟩
end
end My
namespace My
open PySem PySem.Spec PyProof.Rows L2 TL
section
variable {P : Program} {w : World} {K : PySem.W.Frag} {mg : Str → Option Value} {base : Heap}
theorem ok_law (T : Txt K mg) : FnOk P w K mg base CX0 4 T.f_law T.fd_law ["_law_script"] (spLaw K) := by
  refine T.d_law.F.ok sc_law (fun vs H Q E h => ?_) (fun cdv A outer s H vs Q E hr h => ?_)
  · obtain ⟨a, ns, rfl, _⟩ := h
    rfl
  · obtain ⟨a, ns, rfl, hS, hlen, q⟩ := h
    refine ⟨_, (pss_cons (ps_for PassesOwn.never rfl (pi_list (pe_op op_cat (pe_slice sl_list (pv 0) po_none (po_some pe_int)) (pe_lst (pa_cons pe_int (pa_cons pe_int (pa_cons pe_int pa_nil)))))) (pg_name (i := 1) sc_law.nd rfl (.inl rfl))
      (pss_cons (ps_set (i := 2) sc_law.nd rfl (.inl rfl) (pe_call (ok_law_well T) (hr.mono (by decide)) (by rfl) T.d_law_well.g T.d_law_well.F.kp T.d_law_well.b .nil pass0 (pa_cons (pv 1) pa_nil)))
      (pss_cons (ps_set (i := 3) sc_law.nd rfl (.inl rfl) (pe_call (ok_law_fields T) (hr.mono (by decide)) (by rfl) T.d_law_fields.g T.d_law_fields.F.kp T.d_law_fields.b .nil pass0 (pa_cons (pv 2) pa_nil)))
      (Evl.pss_cut (ps_asg (pe_slice sl_list (pv 3) po_none (po_some pe_int)) (pg_lst rfl (pgs_cons (pg_name (i := 4) sc_law.nd rfl (.inl rfl)) (pgs_cons (pg_name (i := 5) sc_law.nd rfl (.inl rfl)) (pgs_cons (pg_name (i := 6) sc_law.nd rfl (.inl rfl)) (pgs_cons (pg_name (i := 7) sc_law.nd rfl (.inl rfl)) (pgs_cons (pg_name (i := 8) sc_law.nd rfl (.inl rfl)) (pgs_cons (pg_name (i := 9) sc_law.nd rfl (.inl rfl)) (pgs_cons (pg_name (i := 10) sc_law.nd rfl (.inl rfl)) (pgs_cons (pg_name (i := 11) sc_law.nd rfl (.inl rfl)) pgs_nil))))))))))
      (pss_cons (ps_set (i := 12) sc_law.nd rfl (.inl rfl) (pe_makeK0 T.mk_Rule (ok_Rule_init T) (hr.mono (by decide)) (by rfl) T.g_Rule T.kb_0.choose_spec pass0 (pk_cons (pv 4) (pk_cons (pv 5) (pk_cons (pv 6) (pk_cons (pv 7) (pk_cons (pv 8) (pk_cons (pv 9) (pk_cons (pv 10) (pk_cons (pv 11) pk_nil))))))))))
      (Evl.pss_cut (ps_asg (pe_slice sl_list (pv 3) (po_some pe_int) po_none) (pg_lst rfl (pgs_cons (pg_name (i := 13) sc_law.nd rfl (.inl rfl)) (pgs_cons (pg_name (i := 14) sc_law.nd rfl (.inl rfl)) (pgs_cons (pg_name (i := 15) sc_law.nd rfl (.inl rfl)) (pgs_cons (pg_name (i := 16) sc_law.nd rfl (.inl rfl)) (pgs_cons (pg_name (i := 17) sc_law.nd rfl (.inl rfl)) (pgs_cons (pg_name (i := 18) sc_law.nd rfl (.inl rfl)) pgs_nil))))))))
      (pss_cons (ps_set (i := 19) sc_law.nd rfl (.inl rfl) (pe_makeK0 T.mk_Wish (ok_Wish_init T) (hr.mono (by decide)) (by rfl) T.g_Wish T.kb_1.choose_spec pass0 (pk_cons (pv 13) (pk_cons (pv 14) (pk_cons (pv 15) (pk_cons (pv 16) (pk_cons (pv 17) (pk_cons (pv 18) pk_nil))))))))
      (pss_cons (ps_set (i := 20) sc_law.nd rfl (.inl rfl) (pe_call (ok_law_ages T) (hr.mono (by decide)) (by rfl) T.d_law_ages.g T.d_law_ages.F.kp T.d_law_ages.b .nil pass0 (pa_cons (pv 2) (pa_cons (pv 3) pa_nil))))
      (pss_cons (ps_for PassesOwn.never rfl (pi_list (pe_op op_cat (pv 20) (pe_revL (pv 20)))) (pg_name (i := 21) sc_law.nd rfl (.inl rfl))
      (pss_cons (ps_set (i := 22) sc_law.nd rfl (.inl rfl) (pe_call (ok_lets T) (hr.mono (by decide)) (by rfl) T.d_lets.g T.d_lets.F.kp T.d_lets.b .nil pass0 (pa_cons (pv 12) (pa_cons (pv 19) (pa_cons (pv 21) pa_nil)))))
      (pss_one (ps_if (pt_mid (PW.pt (pw_or (pt_not (pt_val (pe_callB call_isi (by rfl) T.m_isinstance (by decide +kernel) (pa_cons (pv 22) (pa_cons (pe_bltn (v := .ty "str") (by rfl) T.m_str (by decide +kernel) rfl) pa_nil))))) (pw_or1 (pt_cmpR op_ne (pv 22) (pe_call (ok_law_due T) (hr.mono (by decide)) (by rfl) T.d_law_due.g T.d_law_due.F.kp T.d_law_due.b .nil pass0 (pa_cons (pv 3) (pa_cons (pv 21) pa_nil))) (nomark _))))))
      (pss_one (ps_ret pe_bl))
      pss_nil))))
      (pss_one (ps_if (pt_cmpR (op_neD hr.units) (pe_lst (pa_cons (pe_fld (pv 12) rfl) (pa_cons (pe_fld (pv 12) rfl) (pa_cons (pe_fld (pv 12) rfl) (pa_cons (pe_fld (pv 19) rfl) (pa_cons (pe_fld (pv 19) rfl) pa_nil)))))) (pe_lst (pa_cons (pv 4) (pa_cons (pv 5) (pa_cons (pv 11) (pa_cons (pv 13) (pa_cons (pv 14) pa_nil)))))) (nomark _))
      (pss_one (ps_ret pe_bl))
      pss_nil)))))))))))
      (pss_one (ps_ret pe_bl))), ?_⟩
    obtain ⟨ms, em, lm⟩ := cutV_map V.int ns none (some 20)
    refine ⟨.ref a, rfl, 20, rfl, a, _, rfl, hS, fun p1 h1 => ⟨(by show 3 ≤ sizeLine; decide), fun p2 h2 => ?_⟩⟩
    refine ⟨p1, p2, _, _, rfl, rfl, (same_upd h2) _ _ upd_same, upd_same, by rw [em, List.length_map]; exact szl (by show ms.length + 3 ≤ _; omega), fun p3 h3 => ?_⟩
    have ec : cutV (ns.map V.int) none (some 20) ++ [.int 0, .int 2, .int 17] = (ms ++ [0, 2, 17]).map V.int := by
      rw [em, List.map_append]
      rfl
    rw [ec]
    refine ⟨p3, rfl, ⟨_, SqL.of upd_same⟩, for_list (K := K) (a := p3) (xs := (ms ++ [0, 2, 17]).map V.int) (fun i σ H' => H' p3 = some (.lst ((ms ++ [0, 2, 17]).map V.int)) ∧ ∃ y1 y2 y3 y4 y5 y6 y7 y8 y9 y10 y11 y12 y13 y14 y15 y16 y17 y18 y19 y20 y21 y22, σ = [some (.ref a), y1, y2, y3, y4, y5, y6, y7, y8, y9, y10, y11, y12, y13, y14, y15, y16, y17, y18, y19, y20, y21, y22])
      ⟨upd_same, none, none, none, none, none, none, none, none, none, none, none, none, none, none, none, none, none, none, none, none, none, none, rfl⟩ (fun i σ H' _ pv => SqL.of pv.1) ?_ ?_⟩
    · rintro i x σ H0 hx ⟨e30, y1, y2, y3, y4, y5, y6, y7, y8, y9, y10, y11, y12, y13, y14, y15, y16, y17, y18, y19, y20, y21, y22, rfl⟩
      obtain ⟨n, rfl⟩ := int_at hx
      refine ⟨.int n, rfl, n, rfl, fun W wa wb wc hW => ?_⟩
      have hI0 : IsW (upd H0 W (W3 wa wb wc)) W := ⟨wa, wb, wc, upd_same⟩
      have nWp : p3 ≠ W := ne_of_none e30 hW
      have e31 : (upd H0 W (W3 wa wb wc)) p3 = some (.lst ((ms ++ [0, 2, 17]).map V.int)) := (same_upd hW) _ _ e30
      refine ⟨.ref W, rfl, W, rfl, hI0, fun s r wi H1 ns1 x1 es => ?_⟩
      have nWs : W ≠ s := fun z => by
        rw [← z, upd_same] at ns1
        cases ns1
      refine ⟨fun σ H' => ∃ c1, H1 c1 = none ∧ H' = upd H1 c1 (.lst (vR r)) ∧ σ = [some (.ref a), some (.int n), some (.ref W), some (.ref s), some (.int r.keep), some (.int r.worn), some (.int r.alone), some (.bl r.anew), some (.bl r.own), some (.bl r.common), some (.bl r.never), some (.bl r.strict), y12, y13, y14, y15, y16, y17, y18, y19, y20, y21, y22], ⟨.ref s, rfl, 8, rfl, s, _, rfl, SqL.of es, fun c1 hc1 => ⟨c1, vR r, rfl, SqL.of upd_same, rfl, _, _, rfl, _, _, rfl, _, _, rfl, _, _, rfl, _, _, rfl, _, _, rfl, _, _, rfl, _, _, rfl, rfl, c1, hc1, rfl, rfl⟩⟩, ?_⟩
      rintro σ H' ⟨c1, hc1, rfl, rfl⟩
      have s2 := same_upd (o := .lst (vR r)) hc1
      -- Rule(..)
      refine ⟨_, rfl, _, rfl, _, rfl, _, rfl, _, rfl, _, rfl, _, rfl, _, rfl, rfl, rfl, fun p dx np ndx ndp => ⟨p, dx, r, rfl, upd_same, rfl, ?_⟩⟩
      rw [upd_upd]
      have s3 : Same (upd H1 c1 (.lst (vR r))) (upd (upd (upd H1 c1 (.lst (vR r))) dx (.own p)) p (.ins T.C_Rule dx (fR r))) := (same_upd ndx).trans (same_upd (by rw [upd_ne ndp.symm]; exact np))
      have ep : (upd (upd (upd H1 c1 (.lst (vR r))) dx (.own p)) p (.ins T.C_Rule dx (fR r))) p = some (.ins T.C_Rule dx (fR r)) := upd_same
      generalize upd (upd (upd H1 c1 (.lst (vR r))) dx (.own p)) p (.ins T.C_Rule dx (fR r)) = H2 at *
      have t3 := s2.trans s3
      have es2 := t3 _ _ es
      refine ⟨fun σ H' => ∃ c2, H2 c2 = none ∧ H' = upd H2 c2 (.lst (vW wi)) ∧ σ = [some (.ref a), some (.int n), some (.ref W), some (.ref s), some (.int r.keep), some (.int r.worn), some (.int r.alone), some (.bl r.anew), some (.bl r.own), some (.bl r.common), some (.bl r.never), some (.bl r.strict), some (.ref p), some (oV wi.atmost), some (.int wi.left), some (.int wi.worn), some (.bl wi.anew), some (.bl wi.kept), some (.bl wi.firm), y19, y20, y21, y22], ⟨.ref s, rfl, 8, rfl, s, _, rfl, SqL.of es2, fun c2 hc2 => ⟨c2, vW wi, rfl, SqL.of upd_same, rfl, _, _, rfl, _, _, rfl, _, _, rfl, _, _, rfl, _, _, rfl, _, _, rfl, rfl, c2, hc2, rfl, rfl⟩⟩, ?_⟩
      rintro σ H' ⟨c2, hc2, rfl, rfl⟩
      have s4 := same_upd (o := .lst (vW wi)) hc2
      refine ⟨_, rfl, _, rfl, _, rfl, _, rfl, _, rfl, _, rfl, rfl, rfl, fun p' dx' np' ndx' ndp' => ⟨p', dx', wi, rfl, upd_same, rfl, ?_⟩⟩
      rw [upd_upd]
      have s5 : Same (upd H2 c2 (.lst (vW wi))) (upd (upd (upd H2 c2 (.lst (vW wi))) dx' (.own p')) p' (.ins T.C_Wish dx' (fW wi))) := (same_upd ndx').trans (same_upd (by rw [upd_ne ndp'.symm]; exact np'))
      have ep' : (upd (upd (upd H2 c2 (.lst (vW wi))) dx' (.own p')) p' (.ins T.C_Wish dx' (fW wi))) p' = some (.ins T.C_Wish dx' (fW wi)) := upd_same
      generalize upd (upd (upd H2 c2 (.lst (vW wi))) dx' (.own p')) p' (.ins T.C_Wish dx' (fW wi)) = H3 at *
      have t5 := (t3.trans s4).trans s5
      have x3 := x1.same t5
      have es3 := t5 _ _ es
      have eR : RuleAt T.C_Rule H3 p r := ⟨dx, (s4.trans s5) _ _ ep⟩
      have eW : WishAt T.C_Wish H3 p' wi := ⟨dx', ep'⟩
      -- ages
      refine ⟨.ref W, rfl, .ref s, rfl, W, s, r, wi, rfl, x3.well, nWs, es3, fun pa as H4 x4 ea la => ?_⟩
      have eR4 := eR.wx x3.well x4
      have eW4 := eW.wx x3.well x4
      have es4 := x4.keep _ _ nWs.symm es3
      have e34 := (x3.trans x4).keep _ _ nWp e31
      refine ⟨.ref pa, rfl, .ref pa, rfl, pa, _, rfl, SqL.of ea, fun c3 hc3 => ?_⟩
      have s6 := same_upd (o := .lst (as.map V.int).reverse) hc3
      have er : (as.map V.int).reverse = as.reverse.map V.int := (List.map_reverse ..).symm
      refine ⟨pa, c3, _, _, rfl, rfl, s6 _ _ ea, upd_same, by rw [er, List.length_map, List.length_map, List.length_reverse]; exact szl (by omega), fun c4 hc4 => ?_⟩
      have s7 := same_upd (o := .lst (as.map V.int ++ (as.map V.int).reverse)) hc4
      have ec4 : (upd (upd H4 c3 (.lst (as.map V.int).reverse)) c4 (.lst (as.map V.int ++ (as.map V.int).reverse))) c4 = some (.lst ((as ++ as.reverse).map V.int)) := by
        rw [upd_same, er, List.map_append]
      have t7 := s6.trans s7
      generalize upd (upd H4 c3 (.lst (as.map V.int).reverse)) c4 (.lst (as.map V.int ++ (as.map V.int).reverse)) = H5 at *
      refine ⟨c4, rfl, ⟨_, SqL.of ec4⟩, for_list (K := K) (a := c4) (xs := (as ++ as.reverse).map V.int) (fun j σ H' => Same H5 H' ∧ ∃ z21 z22, σ = [some (.ref a), some (.int n), some (.ref W), some (.ref s), some (.int r.keep), some (.int r.worn), some (.int r.alone), some (.bl r.anew), some (.bl r.own), some (.bl r.common), some (.bl r.never), some (.bl r.strict), some (.ref p), some (oV wi.atmost), some (.int wi.left), some (.int wi.worn), some (.bl wi.anew), some (.bl wi.kept), some (.bl wi.firm), some (.ref p'), some (.ref pa), z21, z22])
        ⟨Same.refl _, y21, y22, rfl⟩ (fun j σ H' _ pv => SqL.of (pv.1 _ _ ec4)) ?_ ?_⟩
      · rintro j v σ H6 hj ⟨s8, z21, z22, rfl⟩
        obtain ⟨age, rfl⟩ := int_at hj
        have t8 := t7.trans s8
        refine ⟨.ref p, rfl, .ref p', rfl, .int age, rfl, p, p', r, wi, age, rfl, eR4.mono t8, eW4.mono t8, ?_⟩
        refine ⟨fun b H' => b = false ∧ Same H6 H', ?_, fun b H' hb => ?_⟩
        · refine ⟨_, rfl, _, .ty "str", _, _, true, rfl, .ty "str", .base (.str _), kit2 (by decide +kernel), true, rfl, ?_⟩
          refine ⟨_, rfl, .ref s, rfl, .int age, rfl, s, r, wi, age, rfl, t8 _ _ es4, fun H7 s9 => ⟨rfl, false, ?_, rfl, s9⟩⟩
          rw [decide_eq_true rfl]
          rfl
        · obtain ⟨rfl, s9⟩ := hb
          exact ⟨s8.trans s9, _, _, rfl⟩
      · rintro σ H6 ⟨s8, z21, z22, rfl⟩
        have t8 := t7.trans s8
        obtain ⟨d1, k1⟩ := eR4.mono t8
        obtain ⟨d2, k2⟩ := eW4.mono t8
        refine ⟨_, rfl, p, _, d1, _, _, rfl, k1, T.cl_Rule, T.n_Rule_keep, fR_keep r, _, rfl, p, _, d1, _, _, rfl, k1, T.cl_Rule, T.n_Rule_worn, fR_worn r, _, rfl, p, _, d1, _, _, rfl, k1, T.cl_Rule, T.n_Rule_strict, fR_strict r, _, rfl, p', _, d2, _, _, rfl, k2, T.cl_Wish, T.n_Wish_atmost, fW_atmost wi, _, rfl, p', _, d2, _, _, rfl, k2, T.cl_Wish, T.n_Wish_left, fW_left wi, (by show 5 ≤ sizeLine; decide), fun c5 hc5 => ?_⟩
        refine ⟨_, rfl, _, rfl, _, rfl, _, rfl, _, rfl, (by show 5 ≤ sizeLine; decide), fun c6 hc6 => ?_⟩
        have s10 := same_upd (o := .lst [.int r.keep, .int r.worn, .bl r.strict, oV wi.atmost, .int wi.left]) hc5
        have s11 := same_upd (o := .lst [.int r.keep, .int r.worn, .bl r.strict, oV wi.atmost, .int wi.left]) hc6
        refine ne_same (d := .list [.int r.keep, .int r.worn, .bool r.strict, od wi.atmost, .int wi.left]) (.lst (SqL.of (s11 _ _ upd_same)) (.cons (.int _) (.cons (.int _) (.cons (.bl _) (.cons (dp_od _) (.cons (.int _) .nil)))))) (.lst (SqL.of upd_same) (.cons (.int _) (.cons (.int _) (.cons (.bl _) (.cons (dp_od _) (.cons (.int _) .nil)))))) ?_ ⟨false, rfl, ?_⟩
        · cases wi.atmost <;> simp [SeqAt.shaped, PyData.canLay0, PyData.canLayAll0, PyData.depth, PyData.depthAll, od]
        · exact ⟨((t8.trans s10).trans s11) _ _ e34, _, _, _, _, _, _, _, _, _, _, _, _, _, _, _, _, _, _, _, _, _, _, rfl⟩
    · rintro σ H1 ⟨e3, y1, y2, y3, y4, y5, y6, y7, y8, y9, y10, y11, y12, y13, y14, y15, y16, y17, y18, y19, y20, y21, y22, rfl⟩
      exact q _
end
end My
namespace My
open PySem PySem.Spec PyProof.Rows L2 TL
theorem all_mk {l : PySem.W.OpenLaw} {w : World} {K : PySem.W.Frag} {h : Heap} {mg : Str → Option Value} {fa : Addr} (X : K.In h) (G : h.Ns mainGlobals mg) (hfa : mg "law" = some (.ref fa))
    {C_Rule : Addr} (aC_Rule : PySem.W.nsIn K mainGlobals "Rule" = some (some (.ref C_Rule))) (pg_Rule : PySem.W.plainGet K C_Rule Str.empty = true) (hd_Rule : PySem.W.hasDictIn K C_Rule = true) (po_Rule : PySem.W.plainOver K C_Rule = true) (sa_Rule : PySem.W.findIn K (.ref C_Rule) "__setattr__" = some (some (.builtin "object.__setattr__")))
    (mk_Rule : PySem.W.makesIn K C_Rule = true) (kc_Rule : PySem.W.keepIn K (.ref C_Rule) = true)
    (n_Rule_keep : PySem.W.findIn K (.ref C_Rule) "keep" = some none)
    (n_Rule_worn : PySem.W.findIn K (.ref C_Rule) "worn" = some none)
    (n_Rule_alone : PySem.W.findIn K (.ref C_Rule) "alone" = some none)
    (n_Rule_anew : PySem.W.findIn K (.ref C_Rule) "anew" = some none)
    (n_Rule_own : PySem.W.findIn K (.ref C_Rule) "own" = some none)
    (n_Rule_common : PySem.W.findIn K (.ref C_Rule) "common" = some none)
    (n_Rule_never : PySem.W.findIn K (.ref C_Rule) "never" = some none)
    (n_Rule_strict : PySem.W.findIn K (.ref C_Rule) "strict" = some none)
    {C_Wish : Addr} (aC_Wish : PySem.W.nsIn K mainGlobals "Wish" = some (some (.ref C_Wish))) (pg_Wish : PySem.W.plainGet K C_Wish Str.empty = true) (hd_Wish : PySem.W.hasDictIn K C_Wish = true) (po_Wish : PySem.W.plainOver K C_Wish = true) (sa_Wish : PySem.W.findIn K (.ref C_Wish) "__setattr__" = some (some (.builtin "object.__setattr__")))
    (mk_Wish : PySem.W.makesIn K C_Wish = true) (kc_Wish : PySem.W.keepIn K (.ref C_Wish) = true)
    (n_Wish_atmost : PySem.W.findIn K (.ref C_Wish) "atmost" = some none)
    (n_Wish_left : PySem.W.findIn K (.ref C_Wish) "left" = some none)
    (n_Wish_worn : PySem.W.findIn K (.ref C_Wish) "worn" = some none)
    (n_Wish_anew : PySem.W.findIn K (.ref C_Wish) "anew" = some none)
    (n_Wish_kept : PySem.W.findIn K (.ref C_Wish) "kept" = some none)
    (n_Wish_firm : PySem.W.findIn K (.ref C_Wish) "firm" = some none)
    {f0 : Addr} {od0 an0 : Option Addr} {sl0 : Array (Option Value)} {oc0 kV0 dc0 pm0 cd0 ct0 : Value}
    (a0 : PySem.W.nsIn K mainGlobals "lets" = some (some (.ref f0)))
    (l0 : K.lookup f0 = some ⟨oc0, od0, .func (PySem.W.fnOf "lets" "lets" (defArgs s_lets) (defBody s_lets) (defScope s_lets) .none kV0 dc0 pm0 an0 cd0 ct0), sl0⟩) (c0 : PySem.W.codeIn K cd0 "lets" = true) (k0 : PySem.W.keepIn K (.ref f0) = true)
    {f1 : Addr} {od1 an1 : Option Addr} {sl1 : Array (Option Value)} {oc1 kV1 dc1 pm1 cd1 ct1 : Value}
    (a1 : PySem.W.nsIn K mainGlobals "_law_well" = some (some (.ref f1)))
    (l1 : K.lookup f1 = some ⟨oc1, od1, .func (PySem.W.fnOf "_law_well" "_law_well" (defArgs s_law_well) (defBody s_law_well) (defScope s_law_well) .none kV1 dc1 pm1 an1 cd1 ct1), sl1⟩) (c1 : PySem.W.codeIn K cd1 "_law_well" = true) (k1 : PySem.W.keepIn K (.ref f1) = true)
    {f2 : Addr} {od2 an2 : Option Addr} {sl2 : Array (Option Value)} {oc2 kV2 dc2 pm2 cd2 ct2 : Value}
    (a2 : PySem.W.nsIn K mainGlobals "_law_draw" = some (some (.ref f2)))
    (l2 : K.lookup f2 = some ⟨oc2, od2, .func (PySem.W.fnOf "_law_draw" "_law_draw" (defArgs s_law_draw) (defBody s_law_draw) (defScope s_law_draw) .none kV2 dc2 pm2 an2 cd2 ct2), sl2⟩) (c2 : PySem.W.codeIn K cd2 "_law_draw" = true) (k2 : PySem.W.keepIn K (.ref f2) = true)
    {f3 : Addr} {od3 an3 : Option Addr} {sl3 : Array (Option Value)} {oc3 kV3 dc3 pm3 cd3 ct3 : Value}
    (a3 : PySem.W.nsIn K mainGlobals "_law_number" = some (some (.ref f3)))
    (l3 : K.lookup f3 = some ⟨oc3, od3, .func (PySem.W.fnOf "_law_number" "_law_number" (defArgs s_law_number) (defBody s_law_number) (defScope s_law_number) .none kV3 dc3 pm3 an3 cd3 ct3), sl3⟩) (c3 : PySem.W.codeIn K cd3 "_law_number" = true) (k3 : PySem.W.keepIn K (.ref f3) = true)
    {f4 : Addr} {od4 an4 : Option Addr} {sl4 : Array (Option Value)} {oc4 kV4 dc4 pm4 cd4 ct4 : Value}
    (a4 : PySem.W.nsIn K mainGlobals "_law_fields" = some (some (.ref f4)))
    (l4 : K.lookup f4 = some ⟨oc4, od4, .func (PySem.W.fnOf "_law_fields" "_law_fields" (defArgs s_law_fields) (defBody s_law_fields) (defScope s_law_fields) .none kV4 dc4 pm4 an4 cd4 ct4), sl4⟩) (c4 : PySem.W.codeIn K cd4 "_law_fields" = true) (k4 : PySem.W.keepIn K (.ref f4) = true)
    {f5 : Addr} {od5 an5 : Option Addr} {sl5 : Array (Option Value)} {oc5 kV5 dc5 pm5 cd5 ct5 : Value}
    (a5 : PySem.W.nsIn K mainGlobals "_law_ages" = some (some (.ref f5)))
    (l5 : K.lookup f5 = some ⟨oc5, od5, .func (PySem.W.fnOf "_law_ages" "_law_ages" (defArgs s_law_ages) (defBody s_law_ages) (defScope s_law_ages) .none kV5 dc5 pm5 an5 cd5 ct5), sl5⟩) (c5 : PySem.W.codeIn K cd5 "_law_ages" = true) (k5 : PySem.W.keepIn K (.ref f5) = true)
    {f6 : Addr} {od6 an6 : Option Addr} {sl6 : Array (Option Value)} {oc6 kV6 dc6 pm6 cd6 ct6 : Value}
    (a6 : PySem.W.nsIn K mainGlobals "_law_due" = some (some (.ref f6)))
    (l6 : K.lookup f6 = some ⟨oc6, od6, .func (PySem.W.fnOf "_law_due" "_law_due" (defArgs s_law_due) (defBody s_law_due) (defScope s_law_due) .none kV6 dc6 pm6 an6 cd6 ct6), sl6⟩) (c6 : PySem.W.codeIn K cd6 "_law_due" = true) (k6 : PySem.W.keepIn K (.ref f6) = true)
    {f7 : Addr} {od7 an7 : Option Addr} {sl7 : Array (Option Value)} {oc7 kV7 dc7 pm7 cd7 ct7 : Value}
    (a7 : PySem.W.nsIn K mainGlobals "law" = some (some (.ref f7)))
    (l7 : K.lookup f7 = some ⟨oc7, od7, .func (PySem.W.fnOf "law" "law" (defArgs s_law) (defBody s_law) (defScope s_law) .none kV7 dc7 pm7 an7 cd7 ct7), sl7⟩) (c7 : PySem.W.codeIn K cd7 "law" = true) (k7 : PySem.W.keepIn K (.ref f7) = true)
    {f8 : Addr} {od8 an8 : Option Addr} {sl8 : Array (Option Value)} {oc8 dc8 pm8 cd8 ct8 : Value} {D8 : Addr}
    (a8_Rule : PySem.W.findIn K (.ref C_Rule) "__init__" = some (some (.ref f8)))
    (i8 : PySem.W.isFn K (.ref f8) = true)
    (l8 : K.lookup f8 = some ⟨oc8, od8, .func (PySem.W.fnOf "__init__" "Rule.__init__" (defArgs s_Rule_init) (defBody s_Rule_init) (defScope s_Rule_init) .none (.ref D8) dc8 pm8 an8 cd8 ct8), sl8⟩) (c8 : PySem.W.codeIn K cd8 "Rule.__init__" = true) (k8 : PySem.W.keepIn K (.ref f8) = true)
    {tk_Rule_init_keep : Tok}
    (y_Rule_init_keep : PySem.W.nsIn K D8 "keep" = some (some (.int 0 tk_Rule_init_keep)))
    {tk_Rule_init_worn : Tok}
    (y_Rule_init_worn : PySem.W.nsIn K D8 "worn" = some (some (.int 0 tk_Rule_init_worn)))
    {tk_Rule_init_alone : Tok}
    (y_Rule_init_alone : PySem.W.nsIn K D8 "alone" = some (some (.int 0 tk_Rule_init_alone)))
    (y_Rule_init_anew : PySem.W.nsIn K D8 "anew" = some (some (.bool false)))
    (y_Rule_init_own : PySem.W.nsIn K D8 "own" = some (some (.bool false)))
    (y_Rule_init_common : PySem.W.nsIn K D8 "common" = some (some (.bool false)))
    (y_Rule_init_never : PySem.W.nsIn K D8 "never" = some (some (.bool false)))
    (y_Rule_init_strict : PySem.W.nsIn K D8 "strict" = some (some (.bool false)))
    {f9 : Addr} {od9 an9 : Option Addr} {sl9 : Array (Option Value)} {oc9 dc9 pm9 cd9 ct9 : Value} {D9 : Addr}
    (a9_Wish : PySem.W.findIn K (.ref C_Wish) "__init__" = some (some (.ref f9)))
    (i9 : PySem.W.isFn K (.ref f9) = true)
    (l9 : K.lookup f9 = some ⟨oc9, od9, .func (PySem.W.fnOf "__init__" "Wish.__init__" (defArgs s_Wish_init) (defBody s_Wish_init) (defScope s_Wish_init) .none (.ref D9) dc9 pm9 an9 cd9 ct9), sl9⟩) (c9 : PySem.W.codeIn K cd9 "Wish.__init__" = true) (k9 : PySem.W.keepIn K (.ref f9) = true)
    (y_Wish_init_atmost : PySem.W.nsIn K D9 "atmost" = some (some (.none)))
    {tk_Wish_init_left : Tok}
    (y_Wish_init_left : PySem.W.nsIn K D9 "left" = some (some (.int 0 tk_Wish_init_left)))
    {tk_Wish_init_worn : Tok}
    (y_Wish_init_worn : PySem.W.nsIn K D9 "worn" = some (some (.int 0 tk_Wish_init_worn)))
    (y_Wish_init_anew : PySem.W.nsIn K D9 "anew" = some (some (.bool false)))
    (y_Wish_init_kept : PySem.W.nsIn K D9 "kept" = some (some (.bool false)))
    (y_Wish_init_firm : PySem.W.nsIn K D9 "firm" = some (some (.bool false)))
    (z_int : PySem.W.nsIn K mainGlobals "int" = some none)
    (z_isinstance : PySem.W.nsIn K mainGlobals "isinstance" = some none)
    (z_range : PySem.W.nsIn K mainGlobals "range" = some none)
    (z_str : PySem.W.nsIn K mainGlobals "str" = some none)
    : ∃ fd : FuncData, (∀ (s : Shared) (v : Value), BindsTo s fd ⟨[v], []⟩ [("_law_script", v)]) ∧ ∀ base : Heap, K.In base → base.Ns mainGlobals mg → FnOk l.prog w K mg base CX0 4 fa fd ["_law_script"] (spLaw K) := by
  have e := hfa.symm.trans (PySem.W.mg_of X G a7)
  cases e
  have F0 := fun_mk (st := s_lets) l0 c0 k0
  have F1 := fun_mk (st := s_law_well) l1 c1 k1
  have F2 := fun_mk (st := s_law_draw) l2 c2 k2
  have F3 := fun_mk (st := s_law_number) l3 c3 k3
  have F4 := fun_mk (st := s_law_fields) l4 c4 k4
  have F5 := fun_mk (st := s_law_ages) l5 c5 k5
  have F6 := fun_mk (st := s_law_due) l6 c6 k6
  have F7 := fun_mk (st := s_law) l7 c7 k7
  have F8 := fun_mk (st := s_Rule_init) l8 c8 k8
  have FK8 : FunD K "__init__" "Rule.__init__" (defArgs s_Rule_init) (defBody s_Rule_init) (defScope s_Rule_init) [] ([("keep", .int 0), ("worn", .int 0), ("alone", .int 0), ("anew", .bl false), ("own", .bl false), ("common", .bl false), ("never", .bl false), ("strict", .bl false)] : List (Str × V)) f8 _ := ⟨⟨_, _, _, _, _, _, _, _, _, _, rfl, l8, c8, .inl ⟨rfl, rfl⟩, .inr ⟨_, rfl, (List.forall_mem_cons.mpr ⟨⟨_, y_Rule_init_keep, ⟨_, rfl⟩⟩, (List.forall_mem_cons.mpr ⟨⟨_, y_Rule_init_worn, ⟨_, rfl⟩⟩, (List.forall_mem_cons.mpr ⟨⟨_, y_Rule_init_alone, ⟨_, rfl⟩⟩, (List.forall_mem_cons.mpr ⟨⟨_, y_Rule_init_anew, rfl⟩, (List.forall_mem_cons.mpr ⟨⟨_, y_Rule_init_own, rfl⟩, (List.forall_mem_cons.mpr ⟨⟨_, y_Rule_init_common, rfl⟩, (List.forall_mem_cons.mpr ⟨⟨_, y_Rule_init_never, rfl⟩, (List.forall_mem_cons.mpr ⟨⟨_, y_Rule_init_strict, rfl⟩, (fun _ h => nomatch h)⟩)⟩)⟩)⟩)⟩)⟩)⟩)⟩)⟩⟩, k8⟩
  have F9 := fun_mk (st := s_Wish_init) l9 c9 k9
  have FK9 : FunD K "__init__" "Wish.__init__" (defArgs s_Wish_init) (defBody s_Wish_init) (defScope s_Wish_init) [] ([("atmost", .non), ("left", .int 0), ("worn", .int 0), ("anew", .bl false), ("kept", .bl false), ("firm", .bl false)] : List (Str × V)) f9 _ := ⟨⟨_, _, _, _, _, _, _, _, _, _, rfl, l9, c9, .inl ⟨rfl, rfl⟩, .inr ⟨_, rfl, (List.forall_mem_cons.mpr ⟨⟨_, y_Wish_init_atmost, rfl⟩, (List.forall_mem_cons.mpr ⟨⟨_, y_Wish_init_left, ⟨_, rfl⟩⟩, (List.forall_mem_cons.mpr ⟨⟨_, y_Wish_init_worn, ⟨_, rfl⟩⟩, (List.forall_mem_cons.mpr ⟨⟨_, y_Wish_init_anew, rfl⟩, (List.forall_mem_cons.mpr ⟨⟨_, y_Wish_init_kept, rfl⟩, (List.forall_mem_cons.mpr ⟨⟨_, y_Wish_init_firm, rfl⟩, (fun _ h => nomatch h)⟩)⟩)⟩)⟩)⟩)⟩)⟩⟩, k9⟩
  let T : Txt K mg := {
    f_lets := f0, fd_lets := _, d_lets := ⟨F0, F0.binds (ps := ["rule", "wish", "age"]) (fun _ _ _ _ _ _ us hl => match us, hl with | [_, _, _], _ => rfl), PySem.W.mg_of X G a0⟩,
    f_law_well := f1, fd_law_well := _, d_law_well := ⟨F1, F1.binds (ps := ["_law_cell"]) (fun _ _ _ _ _ _ us hl => match us, hl with | [_], _ => rfl), PySem.W.mg_of X G a1⟩,
    f_law_draw := f2, fd_law_draw := _, d_law_draw := ⟨F2, F2.binds (ps := ["_law_well_here", "_law_many"]) (fun _ _ _ _ _ _ us hl => match us, hl with | [_, _], _ => rfl), PySem.W.mg_of X G a2⟩,
    f_law_number := f3, fd_law_number := _, d_law_number := ⟨F3, F3.binds (ps := ["_law_well_here"]) (fun _ _ _ _ _ _ us hl => match us, hl with | [_], _ => rfl), PySem.W.mg_of X G a3⟩,
    f_law_fields := f4, fd_law_fields := _, d_law_fields := ⟨F4, F4.binds (ps := ["_law_well_here"]) (fun _ _ _ _ _ _ us hl => match us, hl with | [_], _ => rfl), PySem.W.mg_of X G a4⟩,
    f_law_ages := f5, fd_law_ages := _, d_law_ages := ⟨F5, F5.binds (ps := ["_law_well_here", "_law_some"]) (fun _ _ _ _ _ _ us hl => match us, hl with | [_, _], _ => rfl), PySem.W.mg_of X G a5⟩,
    f_law_due := f6, fd_law_due := _, d_law_due := ⟨F6, F6.binds (ps := ["_law_some", "_law_age"]) (fun _ _ _ _ _ _ us hl => match us, hl with | [_, _], _ => rfl), PySem.W.mg_of X G a6⟩,
    f_law := fa, fd_law := _, d_law := ⟨F7, F7.binds (ps := ["_law_script"]) (fun _ _ _ _ _ _ us hl => match us, hl with | [_], _ => rfl), PySem.W.mg_of X G a7⟩,
    f_Rule_init := f8, fd_Rule_init := _, d_Rule_init := ⟨F8⟩,
    f_Wish_init := f9, fd_Wish_init := _, d_Wish_init := ⟨F9⟩,
    C_Rule := C_Rule, g_Rule := PySem.W.mg_of X G aC_Rule, cl_Rule := ⟨pg_Rule, hd_Rule, po_Rule, sa_Rule⟩,
    mk_Rule := ⟨mk_Rule, a8_Rule, i8, kc_Rule⟩,
    n_Rule_keep := n_Rule_keep,
    n_Rule_worn := n_Rule_worn,
    n_Rule_alone := n_Rule_alone,
    n_Rule_anew := n_Rule_anew,
    n_Rule_own := n_Rule_own,
    n_Rule_common := n_Rule_common,
    n_Rule_never := n_Rule_never,
    n_Rule_strict := n_Rule_strict,
    C_Wish := C_Wish, g_Wish := PySem.W.mg_of X G aC_Wish, cl_Wish := ⟨pg_Wish, hd_Wish, po_Wish, sa_Wish⟩,
    mk_Wish := ⟨mk_Wish, a9_Wish, i9, kc_Wish⟩,
    n_Wish_atmost := n_Wish_atmost,
    n_Wish_left := n_Wish_left,
    n_Wish_worn := n_Wish_worn,
    n_Wish_anew := n_Wish_anew,
    n_Wish_kept := n_Wish_kept,
    n_Wish_firm := n_Wish_firm,
    kb_0 := (FK8.kbinds0 (ps := ["self", "keep", "worn", "alone", "anew", "own", "common", "never", "strict"]) 1 ["keep", "worn", "alone", "anew", "own", "common", "never", "strict"] [] (fun us mv ws => us ++ pickKw [.inr 0, .inr 1, .inr 2, .inr 3, .inr 4, .inr 5, .inr 6, .inr 7] mv ws) (by simp) (by simp) (fun r1 r2 r3 => pick_rel [.inr 0, .inr 1, .inr 2, .inr 3, .inr 4, .inr 5, .inr 6, .inr 7] r1 r2 r3) (fun D doc pm an cdv ct us mv ws h1 h2 h3 => match us, mv, ws, h1, h2, h3 with | [_], [], [_, _, _, _, _, _, _, _], _, _, _ => rfl)).elim (fun mv h => ⟨_, h⟩),
    kb_1 := (FK9.kbinds0 (ps := ["self", "atmost", "left", "worn", "anew", "kept", "firm"]) 1 ["atmost", "left", "worn", "anew", "kept", "firm"] [] (fun us mv ws => us ++ pickKw [.inr 0, .inr 1, .inr 2, .inr 3, .inr 4, .inr 5] mv ws) (by simp) (by simp) (fun r1 r2 r3 => pick_rel [.inr 0, .inr 1, .inr 2, .inr 3, .inr 4, .inr 5] r1 r2 r3) (fun D doc pm an cdv ct us mv ws h1 h2 h3 => match us, mv, ws, h1, h2, h3 with | [_], [], [_, _, _, _, _, _], _, _, _ => rfl)).elim (fun mv h => ⟨_, h⟩),
    m_int := PySem.W.mg_none_of X G z_int,
    m_isinstance := PySem.W.mg_none_of X G z_isinstance,
    m_range := PySem.W.mg_none_of X G z_range,
    m_str := PySem.W.mg_none_of X G z_str
  }
  exact ⟨T.fd_law, fun s v => .of_eq rfl, fun base _ _ => ok_law T⟩
end My
open PySem PySem.W PyProof.Rows
set_option maxHeartbeats 0 in
theorem PySem.Challenge.cw_pagelodge_k16_the_word_of_an_age_holds : PySem.Challenge.rw_pagelodge_k16_the_word_of_an_age.Holds := by
  w_on; o_law; k_head; (case hw => w_witness2)
  k_fill
  refine L2.walk_of (l := PySem.Challenge.rw_pagelodge_k16_the_word_of_an_age) (n := 63) (k := 4) (x := "_law_script") (CX := fun _ => L2.CX0) (sp := fun w => My.spLaw _) rfl (by decide) rfl ⟨rfl, by decide, by decide⟩ (fun w h Y => PySem.W.kIn_of Y) ?F (fun _ _ a ns hl _ hS => ⟨a, ns, rfl, hS, hl, fun _ => rfl⟩) (fun _ _ _ _ _ h => h)
  case F =>
    intro w mg fa h KX G hmg
    refine' My.all_mk KX G hmg ?aC_Rule ?pg_Rule ?hd_Rule ?po_Rule ?sa_Rule ?mk_Rule ?kc_Rule ?n_Rule_keep ?n_Rule_worn ?n_Rule_alone ?n_Rule_anew ?n_Rule_own ?n_Rule_common ?n_Rule_never ?n_Rule_strict ?aC_Wish ?pg_Wish ?hd_Wish ?po_Wish ?sa_Wish ?mk_Wish ?kc_Wish ?n_Wish_atmost ?n_Wish_left ?n_Wish_worn ?n_Wish_anew ?n_Wish_kept ?n_Wish_firm ?a0 ?l0 ?c0 ?k0 ?a1 ?l1 ?c1 ?k1 ?a2 ?l2 ?c2 ?k2 ?a3 ?l3 ?c3 ?k3 ?a4 ?l4 ?c4 ?k4 ?a5 ?l5 ?c5 ?k5 ?a6 ?l6 ?c6 ?k6 ?a7 ?l7 ?c7 ?k7 ?a8_Rule ?i8 ?l8 ?c8 ?k8 ?y_Rule_init_keep ?y_Rule_init_worn ?y_Rule_init_alone ?y_Rule_init_anew ?y_Rule_init_own ?y_Rule_init_common ?y_Rule_init_never ?y_Rule_init_strict ?a9_Wish ?i9 ?l9 ?c9 ?k9 ?y_Wish_init_atmost ?y_Wish_init_left ?y_Wish_init_worn ?y_Wish_init_anew ?y_Wish_init_kept ?y_Wish_init_firm ?z_int ?z_isinstance ?z_range ?z_str
    (case aC_Rule => k_is)
    (case pg_Rule => k_is)
    (case hd_Rule => k_is)
    (case po_Rule => k_is)
    (case sa_Rule => k_is)
    (case mk_Rule => k_is)
    (case kc_Rule => k_is)
    (case n_Rule_keep => k_is)
    (case n_Rule_worn => k_is)
    (case n_Rule_alone => k_is)
    (case n_Rule_anew => k_is)
    (case n_Rule_own => k_is)
    (case n_Rule_common => k_is)
    (case n_Rule_never => k_is)
    (case n_Rule_strict => k_is)
    (case aC_Wish => k_is)
    (case pg_Wish => k_is)
    (case hd_Wish => k_is)
    (case po_Wish => k_is)
    (case sa_Wish => k_is)
    (case mk_Wish => k_is)
    (case kc_Wish => k_is)
    (case n_Wish_atmost => k_is)
    (case n_Wish_left => k_is)
    (case n_Wish_worn => k_is)
    (case n_Wish_anew => k_is)
    (case n_Wish_kept => k_is)
    (case n_Wish_firm => k_is)
    (case a0 => k_is)
    (case l0 => k_is)
    (case c0 => k_is)
    (case k0 => k_is)
    (case a1 => k_is)
    (case l1 => k_is)
    (case c1 => k_is)
    (case k1 => k_is)
    (case a2 => k_is)
    (case l2 => k_is)
    (case c2 => k_is)
    (case k2 => k_is)
    (case a3 => k_is)
    (case l3 => k_is)
    (case c3 => k_is)
    (case k3 => k_is)
    (case a4 => k_is)
    (case l4 => k_is)
    (case c4 => k_is)
    (case k4 => k_is)
    (case a5 => k_is)
    (case l5 => k_is)
    (case c5 => k_is)
    (case k5 => k_is)
    (case a6 => k_is)
    (case l6 => k_is)
    (case c6 => k_is)
    (case k6 => k_is)
    (case a7 => k_is)
    (case l7 => k_is)
    (case c7 => k_is)
    (case k7 => k_is)
    (case a8_Rule => k_is)
    (case i8 => k_is)
    (case l8 => k_is)
    (case c8 => k_is)
    (case k8 => k_is)
    (case y_Rule_init_keep => k_is)
    (case y_Rule_init_worn => k_is)
    (case y_Rule_init_alone => k_is)
    (case y_Rule_init_anew => k_is)
    (case y_Rule_init_own => k_is)
    (case y_Rule_init_common => k_is)
    (case y_Rule_init_never => k_is)
    (case y_Rule_init_strict => k_is)
    (case a9_Wish => k_is)
    (case i9 => k_is)
    (case l9 => k_is)
    (case c9 => k_is)
    (case k9 => k_is)
    (case y_Wish_init_atmost => k_is)
    (case y_Wish_init_left => k_is)
    (case y_Wish_init_worn => k_is)
    (case y_Wish_init_anew => k_is)
    (case y_Wish_init_kept => k_is)
    (case y_Wish_init_firm => k_is)
    (case z_int => k_is)
    (case z_isinstance => k_is)
    (case z_range => k_is)
    (case z_str => k_is)
