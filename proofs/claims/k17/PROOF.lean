import PyProof.Rows.All
import Wide.All
import OpenK.AllK
import Wide.FinOn
import HandS.ForMost
import HandS.IsInst
import HandS.Walk
import HandS.Style
import HandS.Evl
import KE.SortData
import HandS.MakeKwOnly
import HandS.SortKw
import HandS.StrMore
import HandS.FStr
import KE.DataMinMax
import HandS.TryOnly
import HandS.Deep
import KE.IntTextLaws
import PySem.Challenge.RW_pagelodge_k17_what_may_be_served
set_option Elab.async false
set_option linter.all false
set_option maxRecDepth 100000
set_option maxHeartbeats 4000000
namespace My
open PySem PySem.Spec PyProof.Rows L2 TL
/-- xs == [], xs != []: items of any kind -/
def rEqNil (K : PySem.W.Frag) : R2 := fun x y H Q => ∃ p q xs, x = .ref p ∧ y = .ref q ∧ SqL K H p xs ∧ SqL K H q [] ∧ Q (.bl xs.isEmpty) H
section
variable {X : Cx}
theorem op_eqNil (hu : X.A.units + 64 < cLine) : OpR X (compareOp .Eq) (rEqNil X.K) := by
  intro pins s σ H x y v u Q I rx ry h
  obtain ⟨p, q, xs, rfl, rfl, h1, h2, k⟩ := h
  obtain ⟨its, rv, hl, _⟩ := I.list h1
  obtain ⟨its2, rv2, hl2, _⟩ := I.list h2
  cases (show v = Value.ref p from rx)
  cases (show u = Value.ref q from ry)
  cases rv2
  cases rv with
  | nil => exact SeqAt.eq_listAt (e := fun _ => true) hl.isList hl2.isList rfl (by omega) (fun j h1 _ => absurd h1 (by simp)) ⟨.bl true, H, I, rfl, k⟩
  | cons a b => exact SeqAt.eq_list_lengthsAt hl.isList hl2.isList (by simp) (by omega) ⟨.bl false, H, I, rfl, k⟩
end
/-! ### heaps that change at the well alone -/
def W3 (a b c : Int) : HO := .lst [.int a, .int b, .int c]
def IsW (H : Hp) (W : Addr) : Prop := ∃ a b c, H W = some (W3 a b c)
structure Wx (W : Addr) (H H' : Hp) : Prop where
  keep : ∀ b o, b ≠ W → H b = some o → H' b = some o
  well : IsW H' W
theorem Wx.refl {W : Addr} {H : Hp} (h : IsW H W) : Wx W H H := ⟨fun _ _ _ e => e, h⟩
theorem Wx.trans {W : Addr} {H H1 H2 : Hp} (a : Wx W H H1) (b : Wx W H1 H2) : Wx W H H2 := ⟨fun c o n e => b.keep c o n (a.keep c o n e), b.well⟩
theorem Wx.free {W : Addr} {H H' : Hp} (e : Wx W H H') {p : Addr} (h : H' p = none) : H p = none := by
  cases q : H p with
  | none => rfl
  | some o =>
    by_cases hp : p = W
    · obtain ⟨a, b, c, hw⟩ := e.well
      rw [hp, hw] at h
      cases h
    · rw [e.keep p o hp q] at h
      cases h
theorem Wx.new {W : Addr} {H H' : Hp} (e : Wx W H H') {p : Addr} {o : HO} (h : H' p = none) : Wx W H (upd H' p o) := by
  obtain ⟨k, a, b, c, hw⟩ := e
  refine ⟨fun d u n q => ?_, a, b, c, ?_⟩
  · rw [upd_ne (ne_of_none (k d u n q) h)]
    exact k d u n q
  · rw [upd_ne (ne_of_none hw h)]
    exact hw
theorem Wx.set {W : Addr} {H H' : Hp} (e : Wx W H H') (a b c : Int) : Wx W H (upd H' W (W3 a b c)) := by
  refine ⟨fun d u n q => ?_, a, b, c, upd_same⟩
  rw [upd_ne n]
  exact e.keep d u n q
theorem IsW.ne {H : Hp} {W p : Addr} (h : IsW H W) (hp : H p = none) : W ≠ p := by
  obtain ⟨a, b, c, hw⟩ := h
  exact ne_of_none hw hp
theorem Wx.same {W : Addr} {H H1 H2 : Hp} (a : Wx W H H1) (b : Same H1 H2) : Wx W H H2 := by
  obtain ⟨k, x, y, z, hw⟩ := a
  exact ⟨fun c o n e => b c o (k c o n e), x, y, z, b _ _ hw⟩
/-- a list (other than the well) that is made here may change -/
theorem Wx.mut {W : Addr} {H H' : Hp} (e : Wx W H H') {p : Addr} {o : HO} (h : H p = none) (n : W ≠ p) : Wx W H (upd H' p o) := by
  obtain ⟨k, a, b, c, hw⟩ := e
  refine ⟨fun d u m q => ?_, a, b, c, ?_⟩
  · rw [upd_ne (ne_of_none q h)]
    exact k d u m q
  · rw [upd_ne n]
    exact hw
def spWell : Sp := fun vs H Q _ => ∃ n : Int, vs = [.int n] ∧ ∀ p a b c, H p = none → Q (.ref p) (upd H p (W3 a b c))
def spDraw : Sp := fun vs H Q _ => ∃ (W : Addr) (m : Int), vs = [.ref W, .int m] ∧ 0 < m ∧ m < 1073741824 ∧ IsW H W ∧ ∀ r H', 0 ≤ r → r < m → Wx W H H' → Q (.int r) H'
theorem mod_lt {n m : Int} (h : 0 < m) : 0 ≤ n % m ∧ n % m < m := ⟨Int.emod_nonneg n (by omega), Int.emod_lt_of_pos n h⟩
theorem cmul_of {i j : Int} (h : 0 ≤ i ∧ i < 2147483647) : CMul i j := .inl (by omega)
/-! ### texts and lists -/
theorem atI_in {α : Type} {xs : List α} {r : Int} (h0 : 0 ≤ r) (h1 : r < xs.length) : ∃ c, c ∈ xs ∧ atI xs r = some c := by
  obtain ⟨n, rfl⟩ : ∃ n : Nat, r = n := ⟨r.toNat, by omega⟩
  have hn : n < xs.length := by omega
  exact ⟨xs[n], List.getElem_mem hn, atI_nat (List.getElem?_eq_getElem hn)⟩
theorem len_tl (z : Str) : z.cps.toList.length = z.length := Array.length_toList
theorem joinL_one : ∀ t : List Nat, joinL [] (t.map fun c => [c]) = t
  | [] => rfl
  | [c] => rfl
  | c :: d :: r => by
    show [c] ++ ([] ++ joinL [] ((d :: r).map fun c => [c])) = c :: d :: r
    rw [joinL_one (d :: r)]
    rfl
theorem join_signs (y : Str) (hy : y.cps.toList = []) (t : List Nat) : Txt.join y (t.map fun c => (⟨#[c]⟩ : Str)) = ⟨t.toArray⟩ := by
  have e : tl (Txt.join y (t.map fun c => (⟨#[c]⟩ : Str))) = t := by
    rw [join_eq, tl_join, List.map_map]
    show joinL (y.cps.toList) (t.map fun c => [c]) = t
    rw [hy, joinL_one]
  rw [← mk_tl (Txt.join y (t.map fun c => (⟨#[c]⟩ : Str))), e]
theorem joinL_len (S : List Nat) : ∀ ps : List (List Nat), (joinL S ps).length ≤ (ps.map List.length).sum + ps.length * S.length
  | [] => Nat.zero_le _
  | [p] => by
    show p.length ≤ p.length + 0 + 1 * S.length
    omega
  | p :: q :: r => by
    have ih := joinL_len S (q :: r)
    show (p ++ (S ++ joinL S (q :: r))).length ≤ p.length + ((q :: r).map List.length).sum + ((q :: r).length + 1) * S.length
    rw [List.length_append, List.length_append, Nat.add_mul]
    omega
theorem join_len (y : Str) (ps : List Str) : (Txt.join y ps).length ≤ (ps.map (·.length)).sum + ps.length * y.length := by
  have h := joinL_len (tl y) (ps.map tl)
  rw [← tl_join, ← join_eq, List.map_map, List.length_map] at h
  have e : (ps.map (List.length ∘ tl)) = ps.map (·.length) := List.map_congr_left fun z _ => len_tl z
  rw [e] at h
  have e2 : (tl (Txt.join y ps)).length = (Txt.join y ps).length := len_tl _
  have e3 : (tl y).length = y.length := len_tl _
  rw [e2, e3] at h
  exact h
theorem sum_ones (t : List Nat) : ((t.map fun c => (⟨#[c]⟩ : Str)).map (·.length)).sum = t.length := by
  induction t with
  | nil => rfl
  | cons c r ih =>
    show 1 + ((r.map fun c => (⟨#[c]⟩ : Str)).map (·.length)).sum = r.length + 1
    rw [ih]
    omega
theorem sum_le {b : Nat} : ∀ ps : List Str, (∀ z ∈ ps, z.length ≤ b) → (ps.map (·.length)).sum ≤ ps.length * b
  | [], _ => Nat.zero_le _
  | z :: r, h => by
    have ih := sum_le r fun y hy => h y (List.mem_cons_of_mem _ hy)
    have hz := h z (List.mem_cons_self ..)
    show z.length + (r.map (·.length)).sum ≤ (r.length + 1) * b
    rw [Nat.add_mul]
    omega
theorem len_app (a b : Str) : (a ++ b).length = a.length + b.length := Array.size_append
theorem cutS_len (z : Str) (lo hi : Option Int) : (cutS z lo hi).length ≤ z.length := by
  show ((z.cps.toList.drop _).take _).toArray.size ≤ _
  rw [List.size_toArray, List.length_take, List.length_drop, len_tl]
  omega
theorem szl {n : Nat} (h : n ≤ 100000) : n ≤ sizeLine := Nat.le_trans h (by decide)
theorem szlt {n : Nat} (h : n < 100000) : n < sizeLine := Nat.lt_of_lt_of_le h (by decide)
def spSigns : Sp := fun vs H Q _ => ∃ (W : Addr) (z : Str) (m : Int), vs = [.ref W, .str z, .int m] ∧ 0 < z.length ∧ z.length ≤ 1000 ∧ 0 ≤ m ∧ m ≤ 1000 ∧ IsW H W ∧
  ∀ (t : List Nat) H', t.length = m.toNat → (∀ c ∈ t, c ∈ z.cps.toList) → Wx W H H' → Q (.str ⟨t.toArray⟩) H'
theorem ints_at {ns : List Int} {r : Int} (h0 : 0 ≤ r) (h1 : r < ns.length) : ∃ n, n ∈ ns ∧ atI (ns.map V.int) r = some (.int n) := by
  obtain ⟨v, hv, ev⟩ := atI_in (xs := ns.map V.int) h0 (by rw [List.length_map]; exact h1)
  obtain ⟨n, hn, rfl⟩ := List.mem_map.mp hv
  exact ⟨n, hn, ev⟩
theorem strs_at {ns : List Str} {r : Int} (h0 : 0 ≤ r) (h1 : r < ns.length) : ∃ n, n ∈ ns ∧ atI (ns.map V.str) r = some (.str n) := by
  obtain ⟨v, hv, ev⟩ := atI_in (xs := ns.map V.str) h0 (by rw [List.length_map]; exact h1)
  obtain ⟨n, hn, rfl⟩ := List.mem_map.mp hv
  exact ⟨n, hn, ev⟩
theorem mk_len (t : List Nat) : (⟨t.toArray⟩ : Str).length = t.length := List.size_toArray
def spText (b : Nat) : Sp := fun vs H Q _ => ∃ (W : Addr), vs = [.ref W] ∧ IsW H W ∧ ∀ t H', t.length ≤ b → Wx W H H' → Q (.str t) H'
theorem same_upd {H : Hp} {p : Addr} {o : HO} (h : H p = none) : Same H (upd H p o) := fun b x e => by
  rw [upd_ne (ne_of_none e h)]
  exact e
theorem same_mut {H H' : Hp} {p : Addr} {o : HO} (e : Same H H') (h : H p = none) : Same H (upd H' p o) := fun a u ha => by
  rw [upd_ne (ne_of_none ha h)]
  exact e a u ha
theorem take_map {α β : Type} {xs : List α} {i : Nat} {c : α} (f : α → β) (h : xs[i]? = some c) : (xs.take (i + 1)).map f = (xs.take i).map f ++ [f c] := by
  rw [List.take_add_one, h, List.map_append]
  rfl
theorem at_l {z : Str} {i c : Nat} (h : z.cps[i]? = some c) : z.cps.toList[i]? = some c := by
  rw [Array.getElem?_toList]
  exact h
theorem filter_take {α β : Type} {xs : List α} {i : Nat} {c : α} (p : α → Bool) (f : α → β) (h : xs[i]? = some c) : ((xs.take (i + 1)).filter p).map f = ((xs.take i).filter p).map f ++ (if p c = true then [f c] else []) := by
  rw [List.take_add_one, h, List.filter_append, List.map_append]
  by_cases hp : p c = true
  · rw [if_pos hp]
    simp [hp]
  · rw [if_neg hp]
    simp [hp]
theorem all_filter {α : Type} (p : α → Bool) (xs : List α) : ((xs.filter fun c => !p c)).isEmpty = xs.all p := by
  induction xs with
  | nil => rfl
  | cons a r ih =>
    cases h : p a with
    | true => simp only [List.filter_cons, h, List.all_cons, Bool.not_true, Bool.true_and]; exact ih
    | false => simp [List.filter_cons, h, List.all_cons]
theorem isEmpty_map {α β : Type} (f : α → β) (xs : List α) : (xs.map f).isEmpty = xs.isEmpty := by
  cases xs <;> rfl
theorem str_at {ss : List Str} {i : Nat} {x : V} (h : (ss.map V.str)[i]? = some x) : ∃ y, x = .str y ∧ ss[i]? = some y ∧ y ∈ ss := by
  rw [List.getElem?_map] at h
  cases e : ss[i]? with
  | none =>
    rw [e] at h
    cases h
  | some y =>
    rw [e] at h
    cases h
    exact ⟨y, rfl, rfl, List.mem_of_getElem? e⟩
theorem cutV_map {α : Type} (f : α → V) (ns : List α) (lo hi : Option Int) : ∃ ms : List α, cutV (ns.map f) lo hi = ms.map f ∧ ms.length ≤ ns.length := by
  refine ⟨(ns.drop (HT.sIx ns.length 0 lo)).take (HT.sIx ns.length ns.length hi - HT.sIx ns.length 0 lo), ?_, ?_⟩
  · unfold cutV
    rw [List.length_map, List.map_take, List.map_drop]
  · rw [List.length_take, List.length_drop]
    omega
theorem int_at {ns : List Int} {i : Nat} {x : V} (h : (ns.map V.int)[i]? = some x) : ∃ n, x = .int n := by
  rw [List.getElem?_map] at h
  cases e : ns[i]? with
  | none =>
    rw [e] at h
    cases h
  | some y =>
    rw [e] at h
    cases h
    exact ⟨y, rfl⟩
theorem dp_bools {K : PySem.W.Frag} {H : Hp} : ∀ bs : List Bool, DpAll K H (bs.map V.bl) (bs.map PyData.bool)
  | [] => .nil
  | b :: r => .cons (.bl b) (dp_bools r)
theorem lay_bools : ∀ bs : List Bool, PyData.canLayAll0 (bs.map PyData.bool) = true
  | [] => rfl
  | _ :: r => by simp [PyData.canLayAll0, PyData.canLay0, lay_bools r]
theorem depth_bools : ∀ bs : List Bool, PyData.depthAll (bs.map PyData.bool) = 0
  | [] => rfl
  | _ :: r => by simp [PyData.depthAll, PyData.depth, depth_bools r]
theorem shaped_bools (bs : List Bool) : SeqAt.shaped (.list (bs.map PyData.bool)) = true := by
  simp [SeqAt.shaped, PyData.canLay0, PyData.depth, lay_bools, depth_bools]
theorem eqv_bools (bs : List Bool) : PyData.eqv (.list (bs.map PyData.bool)) (.list (bs.map PyData.bool)) = true := SeqAt.eqv_refl _ (by simp [PyData.canLay0, lay_bools])
def spLaw (K : PySem.W.Frag) : Sp := fun vs H Q _ => ∃ (a : Addr) (ns : List Int), vs = [.ref a] ∧ SqL K H a (ns.map V.int) ∧ ns.length ≤ 63 ∧ ∀ H', Q (.bl true) H'
/-! ### sorted(xs) of data that are alike, any length: the items by letters of a type B, their values, their data -/
section
variable {B : Type} {val : B → V} {enc : B → PyData}
theorem vals_each : ∀ {bs : List B} {us : List Value}, Vals (bs.map val) us → PySem.W.EachIs (fun u b => RelV (val b) u) us bs
  | [], _, r => by
    cases r
    exact .nil
  | b :: bs, _, r => by
    cases r with
    | cons h t => exact .cons h (vals_each t)
theorem each_vals : ∀ {bs : List B} {us : List Value}, PySem.W.EachIs (fun u b => RelV (val b) u) us bs → Vals (bs.map val) us
  | _, _, .nil => .nil
  | _, _, .cons h t => .cons h (each_vals t)
theorem each_reads {X : Cx} {pins : List (Addr × Obj)} {σ : L2.St} {H : Hp} {s : Shared} (I : Inv X pins σ H s) : ∀ {bs : List B} {us : List Value}, (∀ b ∈ bs, Dp X.K H (val b) (enc b)) → PySem.W.EachIs (fun u b => RelV (val b) u) us bs → PySem.W.EachIs (fun u b => ∃ as, Reads s.heap u (enc b) as) us bs
  | _, _, _, .nil => .nil
  | _, _, hd, .cons h t => .cons (Dp.reads I _ _ _ (hd _ (List.mem_cons_self ..)) h) (each_reads I (fun b hb => hd b (List.mem_cons_of_mem _ hb)) t)
def sortB (enc : B → PyData) (bs : List B) : List B := bs.mergeSort (PySem.W.dataLe false enc)
def rSortB (K : PySem.W.Frag) (val : B → V) (enc : B → PyData) : List V → Hp → VK → Prop := fun vs H Q => ∃ (a : Addr) (bs : List B), vs = [V.ref a] ∧ SqL K H a (bs.map val) ∧ (∀ b ∈ bs, Dp K H (val b) (enc b)) ∧ PySem.W.AllAlike (bs.map enc) ∧ PySem.W.Sortable (bs.map enc) ∧
  (∀ b ∈ bs, (enc b).depth ≤ 60) ∧ ∀ p, H p = none → Q (.ref p) (upd H p (.lst ((sortB enc bs).map val)))
theorem cr_sortB {X : Cx} (val : B → V) (enc : B → PyData) (hu : X.A.units + 64 < cLine) : CallR X (.builtin "sorted") (rSortB X.K val enc) := by
  intro pins s σ H vs us Q I r h
  obtain ⟨a, bs, rfl, hs, hd, ha, hk, hdp, q⟩ := h
  obtain ⟨its, rv, hl, hz⟩ := I.list hs
  rw [Vals.ref1 r]
  have e1 := vals_each rv
  rw [List.length_map] at hz
  refine PySem.W.sorted_data (enc := enc) hl.isList e1 (each_reads I hd e1) ha hk hz (fun b hb => by have := hdp b hb; omega) fun out ho eo => ?_
  obtain ⟨ep, he'⟩ := PyProof.Rows.sortedAll_at s.heap its out.toArray
  have hlen : ((sortB enc bs).map val).length ≤ sizeLine := by
    rw [List.length_map]
    unfold sortB
    rw [List.length_mergeSort]
    exact hz
  exact ⟨.ref _, upd H (s.heap.objs.size + 1) (.lst ((sortB enc bs).map val)), I.laid (t' := s.toks) (fun _ _ => PyProof.Rows.sortedAll_old) (Nat.le_succ _) ⟨hlen, out, ep, each_vals eo, he'⟩, rfl, q _ (I.hok.fresh (Nat.le_succ _))⟩
theorem sortB_perm (enc : B → PyData) (bs : List B) : (sortB enc bs).Perm bs := List.mergeSort_perm ..
theorem sortB_sorted (enc : B → PyData) (bs : List B) : (sortB enc bs).Pairwise fun a b => PySem.W.dataLe false enc a b = true := PySem.W.sort_pairwise (PySem.W.sortLe_total _ _ _) bs
end
theorem perm_sorted_eq {α : Type} {r : α → α → Prop} (anti : ∀ a b, r a b → r b a → a = b) : ∀ A B : List α, A.Pairwise r → B.Pairwise r → A.Perm B → A = B
  | [], B, _, _, h => (List.Perm.nil_eq h)
  | a :: A, [], _, _, h => absurd h.length_eq (by simp)
  | a :: A, b :: B, ha, hb, h => by
    have e : a = b := by
      rcases List.mem_cons.mp (h.mem_iff.mp (List.mem_cons_self ..)) with e | e
      · exact e
      · rcases List.mem_cons.mp (h.mem_iff.mpr (List.mem_cons_self ..)) with e' | e'
        · exact e'.symm
        · exact anti a b ((List.pairwise_cons.mp ha).1 b e') ((List.pairwise_cons.mp hb).1 a e)
    subst e
    rw [perm_sorted_eq anti A B (List.pairwise_cons.mp ha).2 (List.pairwise_cons.mp hb).2 (List.Perm.cons_inv h)]
/-! ### pairs of texts, in order -/
def ltS (a b : Str) : Prop := a.cps.toList < b.cps.toList
instance (a b : Str) : Decidable (ltS a b) := inferInstanceAs (Decidable (a.cps.toList < b.cps.toList))
theorem ltS_irr (a : Str) : ¬ ltS a a := List.lt_irrefl _
theorem ltS_trans {a b c : Str} (h : ltS a b) (h2 : ltS b c) : ltS a c := List.lt_trans h h2
theorem ltS_tri (a b : Str) : ltS a b ∨ a = b ∨ ltS b a := by
  by_cases h : ltS a b
  · exact .inl h
  · by_cases h2 : ltS b a
    · exact .inr (.inr h2)
    · exact .inr (.inl (PyProof.Rows.ext_toList (List.le_antisymm (List.not_lt.mp h2) (List.not_lt.mp h))))
def leSS (p q : Str × Str) : Prop := ltS p.1 q.1 ∨ (p.1 = q.1 ∧ ¬ ltS q.2 p.2)
theorem leSS_anti (p q : Str × Str) (h : leSS p q) (h2 : leSS q p) : p = q := by
  obtain ⟨a, b⟩ := p
  obtain ⟨c, d⟩ := q
  rcases h with h | ⟨e, h⟩
  · rcases h2 with h2 | ⟨e2, h2⟩
    · exact absurd (ltS_trans h h2) (ltS_irr _)
    · have e2' : c = a := e2
      subst e2'
      exact absurd h (ltS_irr _)
  · have e' : a = c := e
    subst e'
    rcases h2 with h2 | ⟨e2, h2⟩
    · exact absurd h2 (ltS_irr _)
    · rcases ltS_tri b d with x | x | x
      · exact absurd x h2
      · rw [x]
      · exact absurd x h
theorem dataLe_ss {B : Type} (x y : B → Str) (p q : B) (h : PySem.W.dataLe false (fun b => .tuple [.str (x b), .str (y b)]) p q = true) : leSS (x p, y p) (x q, y q) := by
  have e : PySem.W.dataLt (.tuple [.str (x q), .str (y q)]) (.tuple [.str (x p), .str (y p)]) = false := by
    have h' : (!PySem.W.dataLt (.tuple [.str (x q), .str (y q)]) (.tuple [.str (x p), .str (y p)])) = true := h
    simpa using h'
  rw [PySem.W.dataLt_pair (by simp [PySem.W.alike]) (by simp [PySem.W.alike]), PySem.W.dataLt_str, PySem.W.dataLt_str] at e
  simp only [PyData.eqv, beq_iff_eq] at e
  by_cases h1 : x q = x p
  · rw [if_pos h1] at e
    by_cases h2 : y q = y p
    · refine .inr ⟨h1.symm, fun z => ?_⟩
      have z' : ltS (y q) (y p) := z
      rw [h2] at z'
      exact ltS_irr _ z'
    · rw [if_neg h2] at e
      exact .inr ⟨h1.symm, of_decide_eq_false e⟩
  · rw [if_neg h1] at e
    rcases ltS_tri (x p) (x q) with z | z | z
    · exact .inl z
    · exact absurd z.symm h1
    · exact absurd z (of_decide_eq_false e)
end My
namespace My
open PySem PySem.Spec PyProof.Rows L2 TL
def Asc (z : Str) : Prop := ∀ c ∈ z.cps.toList, c < 128
instance (z : Str) : Decidable (Asc z) := inferInstanceAs (Decidable (∀ c ∈ z.cps.toList, c < 128))
theorem asc_mk {t : List Nat} (h : ∀ c ∈ t, c < 128) : Asc ⟨t.toArray⟩ := fun c hc => h c (by simpa using hc)
theorem asc_app {a b : Str} (ha : Asc a) (hb : Asc b) : Asc (a ++ b) := by
  intro c hc
  have e : (a ++ b).cps.toList = a.cps.toList ++ b.cps.toList := Array.toList_append
  rw [e] at hc
  rcases List.mem_append.mp hc with h | h
  · exact ha c h
  · exact hb c h
theorem asc_cut {z : Str} (h : Asc z) (lo hi : Option Int) : Asc (cutS z lo hi) := by
  refine asc_mk fun c hc => h c ?_
  exact List.mem_of_mem_drop (List.mem_of_mem_take hc)
theorem inV_strs (x : Str) (F : List Str) : inV (.str x) (F.map V.str) = decide (x ∈ F) := by
  unfold inV
  rw [List.any_map, Bool.eq_iff_iff, List.any_eq_true, decide_eq_true_iff]
  constructor
  · rintro ⟨y, hy, e⟩
    have e' : (y == x) = true := e
    rw [← eq_of_beq e']
    exact hy
  · intro h
    exact ⟨x, h, by show (x == x) = true; exact beq_self_eq_true x⟩
theorem flat_strs (F : List Str) : (F.map V.str).all flatV = true := by
  rw [List.all_map, List.all_eq_true]
  intro x _
  rfl
/-! ### texts as data -/
theorem dp_strs {K : PySem.W.Frag} {H : Hp} : ∀ F : List Str, DpAll K H (F.map V.str) (F.map PyData.str)
  | [] => .nil
  | b :: r => .cons (.str b) (dp_strs r)
theorem ok_asc {z : Str} (h : Asc z) : PyData.strOk z = true := by
  unfold PyData.strOk
  rw [Array.all_eq_true']
  intro c hc
  have : c < 128 := h c (by simpa using hc)
  exact decide_eq_true (by omega)
theorem lay_strs : ∀ F : List Str, (∀ z ∈ F, Asc z) → PyData.canLayAll0 (F.map PyData.str) = true
  | [], _ => rfl
  | z :: r, h => by simp [PyData.canLayAll0, PyData.canLay0, ok_asc (h z (List.mem_cons_self ..)), lay_strs r fun y hy => h y (List.mem_cons_of_mem _ hy)]
theorem depth_strs : ∀ F : List Str, PyData.depthAll (F.map PyData.str) = 0
  | [] => rfl
  | _ :: r => by simp [PyData.depthAll, PyData.depth, depth_strs r]
theorem shaped_strs (F : List Str) (h : ∀ z ∈ F, Asc z) : SeqAt.shaped (.list (F.map PyData.str)) = true := by
  simp [SeqAt.shaped, PyData.canLay0, PyData.depth, lay_strs F h, depth_strs]
end My
namespace My
open PySem PySem.Spec PyProof.Rows L2 TL
/-! ### calls with keywords: the parameters' values picked out of those that lack and those that are told -/
def pickKw {α : Type} : List (Nat ⊕ Nat) → List α → List α → List α
  | [], _, _ => []
  | .inl i :: r, mv, ws => (mv[i]?).toList ++ pickKw r mv ws
  | .inr i :: r, mv, ws => (ws[i]?).toList ++ pickKw r mv ws
theorem vals_opt {xs : List V} {us : List Value} (r : Vals xs us) (i : Nat) : (xs[i]? = none ∧ us[i]? = none) ∨ ∃ x u, xs[i]? = some x ∧ us[i]? = some u ∧ RelV x u := by
  cases e : xs[i]? with
  | some x =>
    obtain ⟨u, h, ru⟩ := r.get e
    exact .inr ⟨x, u, rfl, h, ru⟩
  | none =>
    have h := List.getElem?_eq_none_iff.mp e
    rw [r.length] at h
    exact .inl ⟨rfl, List.getElem?_eq_none_iff.mpr h⟩
theorem opt_vals {xs : List V} {us : List Value} (r : Vals xs us) (i : Nat) : Vals (xs[i]?).toList (us[i]?).toList := by
  rcases vals_opt r i with ⟨e1, e2⟩ | ⟨x, u, e1, e2, h⟩
  · rw [e1, e2]
    exact .nil
  · rw [e1, e2]
    exact .cons h .nil
theorem pick_vals {mz zs : List V} {mv ws : List Value} (r2 : Vals mz mv) (r3 : Vals zs ws) : ∀ sel : List (Nat ⊕ Nat), Vals (pickKw sel mz zs) (pickKw sel mv ws)
  | [] => .nil
  | .inl i :: r => (opt_vals r2 i).append (pick_vals r2 r3 r)
  | .inr i :: r => (opt_vals r3 i).append (pick_vals r2 r3 r)
theorem pick_rel (sel : List (Nat ⊕ Nat)) {vs mz zs : List V} {us mv ws : List Value} (r1 : Vals vs us) (r2 : Vals mz mv) (r3 : Vals zs ws) : Vals (vs ++ pickKw sel mz zs) (us ++ pickKw sel mv ws) := r1.append (pick_vals r2 r3 sel)
/-! ### an expression, a test, by what it gives: the rest is read once -/
section
variable {X : Cx}
def tPure (t : TE) : TE := fun σ H Q => ∃ v, t σ H (fun y H' => y = v ∧ H' = H) ∧ Q v H
theorem pe_pure {e : Expr} {t : TE} (h : PE X e t) : PE X e (tPure t) := by
  refine ⟨fun pins s σ H Q I hw => ?_⟩
  obtain ⟨v, h1, h2⟩ := hw
  refine thn (h.run pins s σ H _ I h1) fun u s1 ⟨x, H1, I1, r1, q1⟩ => ?_
  obtain ⟨rfl, rfl⟩ := q1
  exact ⟨x, H1, I1, r1, h2⟩
def tPureT (t : TT) : TT := fun σ H Q => ∃ b, t σ H (fun y H' => y = b ∧ H' = H) ∧ Q b H
theorem pt_pure {e : Expr} {t : TT} (h : PT X e t) : PT X e (tPureT t) := by
  refine ⟨fun pins s σ H Q I hw => ?_⟩
  obtain ⟨v, h1, h2⟩ := hw
  refine thn (h.run pins s σ H _ I h1) fun u s1 ⟨H1, I1, q1⟩ => ?_
  obtain ⟨rfl, rfl⟩ := q1
  exact ⟨H1, I1, h2⟩
def tMid (t : TE) : TE := fun σ H Q => ∃ R : VK, t σ H R ∧ ∀ v H', R v H' → Q v H'
theorem pe_mid {e : Expr} {t : TE} (h : PE X e t) : PE X e (tMid t) := by
  refine ⟨fun pins s σ H Q I hw => ?_⟩
  obtain ⟨R, h1, h2⟩ := hw
  exact thn (h.run pins s σ H _ I h1) fun u s1 ⟨x, H1, I1, r1, q1⟩ => ⟨x, H1, I1, r1, h2 _ _ q1⟩
def tMidT (t : TT) : TT := fun σ H Q => ∃ R : Bool → Hp → Prop, t σ H R ∧ ∀ b H', R b H' → Q b H'
theorem pt_mid {e : Expr} {t : TT} (h : PT X e t) : PT X e (tMidT t) := by
  refine ⟨fun pins s σ H Q I hw => ?_⟩
  obtain ⟨R, h1, h2⟩ := hw
  exact thn (h.run pins s σ H _ I h1) fun u s1 ⟨H1, I1, q1⟩ => ⟨H1, I1, h2 _ _ q1⟩
end
/-! ### fields -/
theorem len_putF (f : Str) (v : V) : ∀ fs : List (Str × V), (putF f v fs).length ≤ fs.length + 1
  | [] => Nat.le_refl _
  | (g, x) :: r => by
    unfold putF
    split
    · exact Nat.le_succ _
    · exact Nat.succ_le_succ (len_putF f v r)
theorem few {n : Nat} {f : Str} {v : V} {fs : List (Str × V)} (h : fs.length ≤ n) : (putF f v fs).length ≤ n + 1 := Nat.le_trans (len_putF f v fs) (Nat.succ_le_succ h)
theorem few0 : ([] : List (Str × V)).length ≤ 0 := Nat.le_refl _
theorem fewL {n m : Nat} (h : n ≤ m) (k : m < 1000) : n < 1000 := Nat.lt_of_le_of_lt h k
theorem ne_same {K : PySem.W.Frag} {H : Hp} {x y : V} {d : PyData} {Q : VK} (hx : Dp K H x d) (hy : Dp K H y d) (sh : SeqAt.shaped d = true) (q : Q (.bl false) H) : rNeD K x y H Q := by
  refine ⟨d, d, hx, hy, sh, sh, ?_⟩
  rw [SeqAt.eqv_refl _ (SeqAt.canLay_of_shaped sh)]
  exact q
theorem kit2 {K : PySem.W.Frag} {n m : String} {b : Bool} (h : kitB n m = some b) : PySem.W.kitOne K (.type n) (.type m) = some b := kit_ty h
def oV : Option Int → V
  | none => .non
  | some n => .int n
def od : Option Int → PyData
  | none => .none
  | some n => .int n
theorem dp_od {K : PySem.W.Frag} {H : Hp} (x : Option Int) : Dp K H (oV x) (od x) := by
  cases x with
  | none => exact .non
  | some n => exact .int n
end My
namespace My
open PySem PySem.Spec PyProof.Rows L2 TL
/-! ### min(xs, default=d), max(xs, default=d) of ints -/
def minI : List Int → Option Int
  | [] => none
  | n :: ns => some (ns.foldl min n)
def maxI : List Int → Option Int
  | [] => none
  | n :: ns => some (ns.foldl max n)
def orV (d : V) : Option Int → V
  | none => d
  | some m => .int m
theorem dp_ints {K : PySem.W.Frag} {H : Hp} : ∀ ns : List Int, DpAll K H (ns.map V.int) (ns.map PyData.int)
  | [] => .nil
  | b :: r => .cons (.int b) (dp_ints r)
theorem depth_ints : ∀ ns : List Int, PyData.depthAll (ns.map PyData.int) = 0
  | [] => rfl
  | _ :: r => by simp [PyData.depthAll, PyData.depth, depth_ints r]
theorem alike_ints (ns : List Int) : PySem.W.AlikeAll (ns.map PyData.int) := by
  refine ⟨fun x hx y hy => ?_, fun x hx => ?_⟩
  · obtain ⟨a, _, rfl⟩ := List.mem_map.mp hx
    obtain ⟨b, _, rfl⟩ := List.mem_map.mp hy
    simp [PySem.W.alike]
  · obtain ⟨a, _, rfl⟩ := List.mem_map.mp hx
    intro z
    cases z
def rDf (K : PySem.W.Frag) (f : List Int → Option Int) : List V → List V → Hp → VK → Prop := fun xs zs H Q => ∃ (a : Addr) (ns : List Int) (d : V), xs = [.ref a] ∧ zs = [d] ∧ SqL K H a (ns.map V.int) ∧ Q (orV d (f ns)) H
theorem cr_minDf {X : Cx} (hc : X.calm = true) (hu : X.A.units + 64 < cLine) : CallRK X (.builtin "min") ["default"] (rDf X.K minI) := by
  intro pins s σ H xs zs us ws Q I r rz h
  obtain ⟨a, ns, d, rfl, rfl, hs, q⟩ := h
  obtain ⟨its, rv, hl, _⟩ := I.list hs
  rw [Vals.ref1 r]
  obtain ⟨u, rfl, ru⟩ := rz.one
  obtain ⟨as, ra⟩ := Dp.readsAll I _ _ _ (dp_ints ns) rv
  refine PySem.W.min_list_default (xs := ns.map PyData.int) (I.ok.hd hc) hl.isList (by simpa using ra) (alike_ints ns) (by rw [depth_ints]; omega) (fun e h' tk hk => ?_) (fun y ys i v h' tk bs e hv rd hk => ?_)
  · cases ns with
    | nil => exact ⟨d, H, I.kept hk, ru, q⟩
    | cons n r => cases e
  · cases ns with
    | nil => cases e
    | cons n r =>
      cases e
      rw [PySem.W.minD_ints] at rd
      cases rd
      exact ⟨.int _, H, I.kept hk, ⟨_, rfl⟩, q⟩
theorem cr_maxDf {X : Cx} (hc : X.calm = true) (hu : X.A.units + 64 < cLine) : CallRK X (.builtin "max") ["default"] (rDf X.K maxI) := by
  intro pins s σ H xs zs us ws Q I r rz h
  obtain ⟨a, ns, d, rfl, rfl, hs, q⟩ := h
  obtain ⟨its, rv, hl, _⟩ := I.list hs
  rw [Vals.ref1 r]
  obtain ⟨u, rfl, ru⟩ := rz.one
  obtain ⟨as, ra⟩ := Dp.readsAll I _ _ _ (dp_ints ns) rv
  refine PySem.W.max_list_default (xs := ns.map PyData.int) (I.ok.hd hc) hl.isList (by simpa using ra) (alike_ints ns) (by rw [depth_ints]; omega) (fun e h' tk hk => ?_) (fun y ys i v h' tk bs e hv rd hk => ?_)
  · cases ns with
    | nil => exact ⟨d, H, I.kept hk, ru, q⟩
    | cons n r => cases e
  · cases ns with
    | nil => cases e
    | cons n r =>
      cases e
      rw [PySem.W.maxD_ints] at rd
      cases rd
      exact ⟨.int _, H, I.kept hk, ⟨_, rfl⟩, q⟩
/-! ### x is True, x is False, whatever x is -/
def rIsA : R2 := fun x y H Q => ∃ b : Bool, y = .bl b ∧ Q (.bl (decide (x = .bl b))) H
def rNotA : R2 := fun x y H Q => ∃ b : Bool, y = .bl b ∧ Q (.bl (!decide (x = .bl b))) H
theorem op_isA {X : Cx} : OpR X (compareOp .Is) rIsA := by
  intro pins s σ H x y v u Q I rx ry h
  obtain ⟨b, rfl, q⟩ := h
  cases (show u = Value.bool b from ry)
  cases x with
  | bl a =>
    cases (show v = Value.bool a from rx)
    by_cases e : a = b
    · subst e
      exact wpAny_is_self rfl ⟨.bl true, H, I, rfl, by simpa using q⟩
    · exact wpAny_is_other rfl (fun z => e (Value.bool.inj z)) ⟨.bl false, H, I, rfl, by simpa [e] using q⟩
  | non =>
    cases (show v = Value.none from rx)
    exact wpAny_is_other rfl (fun z => by cases z) ⟨.bl false, H, I, rfl, by simpa using q⟩
  | int i =>
    obtain ⟨t, rfl⟩ := rx
    exact wpAny_is_other rfl (fun z => by cases z) ⟨.bl false, H, I, rfl, by simpa using q⟩
  | str i =>
    obtain ⟨t, rfl⟩ := rx
    exact wpAny_is_other rfl (fun z => by cases z) ⟨.bl false, H, I, rfl, by simpa using q⟩
  | byt i =>
    obtain ⟨t, rfl⟩ := rx
    exact wpAny_is_other rfl (fun z => by cases z) ⟨.bl false, H, I, rfl, by simpa using q⟩
  | flt i =>
    obtain ⟨t, rfl⟩ := rx
    exact wpAny_is_other rfl (fun z => by cases z) ⟨.bl false, H, I, rfl, by simpa using q⟩
  | ref i =>
    cases (show v = Value.ref i from rx)
    exact wpAny_is_other rfl (fun z => by cases z) ⟨.bl false, H, I, rfl, by simpa using q⟩
  | ty i =>
    cases (show v = Value.type i from rx)
    exact wpAny_is_other rfl (fun z => by cases z) ⟨.bl false, H, I, rfl, by simpa using q⟩
theorem op_notA {X : Cx} : OpR X (compareOp .IsNot) rNotA := by
  intro pins s σ H x y v u Q I rx ry h
  obtain ⟨b, rfl, q⟩ := h
  cases (show u = Value.bool b from ry)
  cases x with
  | bl a =>
    cases (show v = Value.bool a from rx)
    by_cases e : a = b
    · subst e
      exact wpAny_isNot_self rfl ⟨.bl false, H, I, rfl, by simpa using q⟩
    · exact wpAny_isNot_other rfl (fun z => e (Value.bool.inj z)) ⟨.bl true, H, I, rfl, by simpa [e] using q⟩
  | non =>
    cases (show v = Value.none from rx)
    exact wpAny_isNot_other rfl (fun z => by cases z) ⟨.bl true, H, I, rfl, by simpa using q⟩
  | int i =>
    obtain ⟨t, rfl⟩ := rx
    exact wpAny_isNot_other rfl (fun z => by cases z) ⟨.bl true, H, I, rfl, by simpa using q⟩
  | str i =>
    obtain ⟨t, rfl⟩ := rx
    exact wpAny_isNot_other rfl (fun z => by cases z) ⟨.bl true, H, I, rfl, by simpa using q⟩
  | byt i =>
    obtain ⟨t, rfl⟩ := rx
    exact wpAny_isNot_other rfl (fun z => by cases z) ⟨.bl true, H, I, rfl, by simpa using q⟩
  | flt i =>
    obtain ⟨t, rfl⟩ := rx
    exact wpAny_isNot_other rfl (fun z => by cases z) ⟨.bl true, H, I, rfl, by simpa using q⟩
  | ref i =>
    cases (show v = Value.ref i from rx)
    exact wpAny_isNot_other rfl (fun z => by cases z) ⟨.bl true, H, I, rfl, by simpa using q⟩
  | ty i =>
    cases (show v = Value.type i from rx)
    exact wpAny_isNot_other rfl (fun z => by cases z) ⟨.bl true, H, I, rfl, by simpa using q⟩
end My
namespace My
open PySem PySem.Spec PyProof.Rows L2 TL
def topS (i : Nat) : Stmt := PySem.Challenge.pw_pagelodge_k17_what_may_be_served.main.body.getD i (.Pass ⟨0, 0, 0, 0⟩)
abbrev s_is_made_of : Stmt := topS 10
theorem sc_is_made_of : FnScope ["text", "signs", "least", "most", "sign"] ["text", "signs", "least", "most"] (defScope s_is_made_of) := ⟨rfl, rfl, rfl, by decide +kernel, rfl, by decide +kernel, by decide +kernel⟩
abbrev s_is_name : Stmt := topS 11
theorem sc_is_name : FnScope ["text"] ["text"] (defScope s_is_name) := ⟨rfl, rfl, rfl, by decide +kernel, rfl, by decide +kernel, by decide +kernel⟩
abbrev s_is_figures : Stmt := topS 12
theorem sc_is_figures : FnScope ["text"] ["text"] (defScope s_is_figures) := ⟨rfl, rfl, rfl, by decide +kernel, rfl, by decide +kernel, by decide +kernel⟩
abbrev s_read_rule : Stmt := topS 23
theorem sc_read_rule : FnScope ["text", "words", "wrong"] ["text"] (defScope s_read_rule) := ⟨rfl, rfl, rfl, by decide +kernel, rfl, by decide +kernel, by decide +kernel⟩
abbrev s_read_wish : Stmt := topS 24
theorem sc_read_wish : FnScope ["text", "words", "wrong"] ["text"] (defScope s_read_wish) := ⟨rfl, rfl, rfl, by decide +kernel, rfl, by decide +kernel, by decide +kernel⟩
abbrev s_words_told : Stmt := topS 25
theorem sc_words_told : FnScope ["text", "piece"] ["text"] (defScope s_words_told) := ⟨rfl, rfl, rfl, by decide +kernel, rfl, by decide +kernel, by decide +kernel⟩
abbrev s_word_told : Stmt := topS 26
theorem sc_word_told : FnScope ["piece", "name", "blank", "figures"] ["piece"] (defScope s_word_told) := ⟨rfl, rfl, rfl, by decide +kernel, rfl, by decide +kernel, by decide +kernel⟩
abbrev s_first_wrong : Stmt := topS 27
theorem sc_first_wrong : FnScope ["words", "numbers", "truths", "at", "word"] ["words", "numbers", "truths"] (defScope s_first_wrong) := ⟨rfl, rfl, rfl, by decide +kernel, rfl, by decide +kernel, by decide +kernel⟩
abbrev s_suits_its_name : Stmt := topS 28
theorem sc_suits_its_name : FnScope ["word", "numbers", "truths", "name", "number"] ["word", "numbers", "truths"] (defScope s_suits_its_name) := ⟨rfl, rfl, rfl, by decide +kernel, rfl, by decide +kernel, by decide +kernel⟩
abbrev s_numbers_told : Stmt := topS 29
theorem sc_numbers_told : FnScope ["words", "name", "named", "number"] ["words", "name"] (defScope s_numbers_told) := ⟨rfl, rfl, rfl, by decide +kernel, rfl, by decide +kernel, by decide +kernel⟩
abbrev s_is_told : Stmt := topS 30
theorem sc_is_told : FnScope ["words", "name"] ["words", "name"] (defScope s_is_told) := ⟨rfl, rfl, rfl, by decide +kernel, rfl, by decide +kernel, by decide +kernel⟩
abbrev s_lets : Stmt := topS 31
theorem sc_lets : FnScope ["rule", "wish", "age"] ["rule", "wish", "age"] (defScope s_lets) := ⟨rfl, rfl, rfl, by decide +kernel, rfl, by decide +kernel, by decide +kernel⟩
abbrev s_serves : Stmt := topS 32
theorem sc_serves : FnScope ["rule", "wish", "age", "alone", "word"] ["rule", "wish", "age", "alone"] (defScope s_serves) := ⟨rfl, rfl, rfl, by decide +kernel, rfl, by decide +kernel, by decide +kernel⟩
abbrev s_law_well : Stmt := topS 34
theorem sc_law_well : FnScope ["_law_cell"] ["_law_cell"] (defScope s_law_well) := ⟨rfl, rfl, rfl, by decide +kernel, rfl, by decide +kernel, by decide +kernel⟩
abbrev s_law_draw : Stmt := topS 35
theorem sc_law_draw : FnScope ["_law_well_here", "_law_many", "_law_found", "_law_number_here"] ["_law_well_here", "_law_many"] (defScope s_law_draw) := ⟨rfl, rfl, rfl, by decide +kernel, rfl, by decide +kernel, by decide +kernel⟩
abbrev s_law_number : Stmt := topS 36
theorem sc_law_number : FnScope ["_law_well_here", "_law_lot", "_law_found", "_law_k"] ["_law_well_here"] (defScope s_law_number) := ⟨rfl, rfl, rfl, by decide +kernel, rfl, by decide +kernel, by decide +kernel⟩
abbrev s_law_words : Stmt := topS 37
theorem sc_law_words : FnScope ["_law_names", "_law_some", "_law_found", "_law_k"] ["_law_names", "_law_some"] (defScope s_law_words) := ⟨rfl, rfl, rfl, by decide +kernel, rfl, by decide +kernel, by decide +kernel⟩
abbrev s_law_rule_row : Stmt := topS 38
theorem sc_law_rule_row : FnScope ["_law_well_here", "_law_found", "_law_k"] ["_law_well_here"] (defScope s_law_rule_row) := ⟨rfl, rfl, rfl, by decide +kernel, rfl, by decide +kernel, by decide +kernel⟩
abbrev s_law_wish_row : Stmt := topS 39
theorem sc_law_wish_row : FnScope ["_law_well_here", "_law_found", "_law_k"] ["_law_well_here"] (defScope s_law_wish_row) := ⟨rfl, rfl, rfl, by decide +kernel, rfl, by decide +kernel, by decide +kernel⟩
abbrev s_law_till : Stmt := topS 40
theorem sc_law_till : FnScope ["_law_mine", "_law_wished", "_law_till_here", "_law_more"] ["_law_mine", "_law_wished"] (defScope s_law_till) := ⟨rfl, rfl, rfl, by decide +kernel, rfl, by decide +kernel, by decide +kernel⟩
abbrev s_law_ages : Stmt := topS 41
theorem sc_law_ages : FnScope ["_law_well_here", "_law_mine", "_law_wished", "_law_ends", "_law_found", "_law_end", "_law_age"] ["_law_well_here", "_law_mine", "_law_wished"] (defScope s_law_ages) := ⟨rfl, rfl, rfl, by decide +kernel, rfl, by decide +kernel, by decide +kernel⟩
abbrev s_law : Stmt := topS 42
theorem sc_law : FnScope ["_law_script", "_law_cell", "_law_well_here", "_law_mine", "_law_wished", "_law_rule", "_law_wish", "_law_till_here", "_law_more", "_law_age", "_law_found", "_law_one"] ["_law_script"] (defScope s_law) := ⟨rfl, rfl, rfl, by decide +kernel, rfl, by decide +kernel, by decide +kernel⟩
abbrev s_Rule_init : Stmt := inClass (topS 20) 0
theorem sc_Rule_init : FnScope ["self", "keep", "worn", "alone", "anew", "own", "common", "never", "strict"] ["self", "keep", "worn", "alone", "anew", "own", "common", "never", "strict"] (defScope s_Rule_init) := ⟨rfl, rfl, rfl, by decide +kernel, rfl, by decide +kernel, by decide +kernel⟩
abbrev s_Wish_init : Stmt := inClass (topS 21) 0
theorem sc_Wish_init : FnScope ["self", "atmost", "left", "worn", "anew", "kept", "firm"] ["self", "atmost", "left", "worn", "anew", "kept", "firm"] (defScope s_Wish_init) := ⟨rfl, rfl, rfl, by decide +kernel, rfl, by decide +kernel, by decide +kernel⟩
structure Def (K : PySem.W.Frag) (mg : Str → Option Value) (x : Str) (st : Stmt) (ps : List Str) (f : Addr) (fd : FuncData) : Prop where
  F : Fun K x x st f fd
  b : Binds K fd ps []
  g : mg x = some (.ref f)
structure DefM (K : PySem.W.Frag) (x qual : Str) (st : Stmt) (ps : List Str) (f : Addr) (fd : FuncData) : Prop where
  F : Fun K x qual st f fd
  b : Binds K fd ps []
structure DefK (K : PySem.W.Frag) (x qual : Str) (st : Stmt) (f : Addr) (fd : FuncData) : Prop where
  F : Fun K x qual st f fd
structure DefG (K : PySem.W.Frag) (mg : Str → Option Value) (x qual : Str) (st : Stmt) (f : Addr) (fd : FuncData) : Prop where
  F : Fun K x qual st f fd
  g : mg x = some (.ref f)
structure Txt (K : PySem.W.Frag) (mg : Str → Option Value) where
  f_is_made_of : Addr
  fd_is_made_of : FuncData
  d_is_made_of : Def K mg "is_made_of" s_is_made_of ["text", "signs", "least", "most"] f_is_made_of fd_is_made_of
  f_is_name : Addr
  fd_is_name : FuncData
  d_is_name : Def K mg "is_name" s_is_name ["text"] f_is_name fd_is_name
  f_is_figures : Addr
  fd_is_figures : FuncData
  d_is_figures : Def K mg "is_figures" s_is_figures ["text"] f_is_figures fd_is_figures
  f_read_rule : Addr
  fd_read_rule : FuncData
  d_read_rule : Def K mg "read_rule" s_read_rule ["text"] f_read_rule fd_read_rule
  f_read_wish : Addr
  fd_read_wish : FuncData
  d_read_wish : Def K mg "read_wish" s_read_wish ["text"] f_read_wish fd_read_wish
  f_words_told : Addr
  fd_words_told : FuncData
  d_words_told : Def K mg "words_told" s_words_told ["text"] f_words_told fd_words_told
  f_word_told : Addr
  fd_word_told : FuncData
  d_word_told : Def K mg "word_told" s_word_told ["piece"] f_word_told fd_word_told
  f_first_wrong : Addr
  fd_first_wrong : FuncData
  d_first_wrong : Def K mg "first_wrong" s_first_wrong ["words", "numbers", "truths"] f_first_wrong fd_first_wrong
  f_suits_its_name : Addr
  fd_suits_its_name : FuncData
  d_suits_its_name : Def K mg "suits_its_name" s_suits_its_name ["word", "numbers", "truths"] f_suits_its_name fd_suits_its_name
  f_numbers_told : Addr
  fd_numbers_told : FuncData
  d_numbers_told : Def K mg "numbers_told" s_numbers_told ["words", "name"] f_numbers_told fd_numbers_told
  f_is_told : Addr
  fd_is_told : FuncData
  d_is_told : Def K mg "is_told" s_is_told ["words", "name"] f_is_told fd_is_told
  f_lets : Addr
  fd_lets : FuncData
  d_lets : Def K mg "lets" s_lets ["rule", "wish", "age"] f_lets fd_lets
  f_serves : Addr
  fd_serves : FuncData
  d_serves : DefG K mg "serves" "serves" s_serves  f_serves fd_serves
  f_law_well : Addr
  fd_law_well : FuncData
  d_law_well : Def K mg "_law_well" s_law_well ["_law_cell"] f_law_well fd_law_well
  f_law_draw : Addr
  fd_law_draw : FuncData
  d_law_draw : Def K mg "_law_draw" s_law_draw ["_law_well_here", "_law_many"] f_law_draw fd_law_draw
  f_law_number : Addr
  fd_law_number : FuncData
  d_law_number : Def K mg "_law_number" s_law_number ["_law_well_here"] f_law_number fd_law_number
  f_law_words : Addr
  fd_law_words : FuncData
  d_law_words : Def K mg "_law_words" s_law_words ["_law_names", "_law_some"] f_law_words fd_law_words
  f_law_rule_row : Addr
  fd_law_rule_row : FuncData
  d_law_rule_row : Def K mg "_law_rule_row" s_law_rule_row ["_law_well_here"] f_law_rule_row fd_law_rule_row
  f_law_wish_row : Addr
  fd_law_wish_row : FuncData
  d_law_wish_row : Def K mg "_law_wish_row" s_law_wish_row ["_law_well_here"] f_law_wish_row fd_law_wish_row
  f_law_till : Addr
  fd_law_till : FuncData
  d_law_till : Def K mg "_law_till" s_law_till ["_law_mine", "_law_wished"] f_law_till fd_law_till
  f_law_ages : Addr
  fd_law_ages : FuncData
  d_law_ages : Def K mg "_law_ages" s_law_ages ["_law_well_here", "_law_mine", "_law_wished"] f_law_ages fd_law_ages
  f_law : Addr
  fd_law : FuncData
  d_law : Def K mg "law" s_law ["_law_script"] f_law fd_law
  f_Rule_init : Addr
  fd_Rule_init : FuncData
  d_Rule_init : DefK K "__init__" "Rule.__init__" s_Rule_init  f_Rule_init fd_Rule_init
  f_Wish_init : Addr
  fd_Wish_init : FuncData
  d_Wish_init : DefK K "__init__" "Wish.__init__" s_Wish_init  f_Wish_init fd_Wish_init
  C_Rule : Addr
  g_Rule : mg "Rule" = some (.ref C_Rule)
  cl_Rule : Cls K C_Rule
  mk_Rule : Mk K C_Rule f_Rule_init
  n_Rule_keep : NoAttr K C_Rule "keep"
  n_Rule_worn : NoAttr K C_Rule "worn"
  n_Rule_alone : NoAttr K C_Rule "alone"
  n_Rule_anew : NoAttr K C_Rule "anew"
  n_Rule_own : NoAttr K C_Rule "own"
  n_Rule_common : NoAttr K C_Rule "common"
  n_Rule_never : NoAttr K C_Rule "never"
  n_Rule_strict : NoAttr K C_Rule "strict"
  C_Wish : Addr
  g_Wish : mg "Wish" = some (.ref C_Wish)
  cl_Wish : Cls K C_Wish
  mk_Wish : Mk K C_Wish f_Wish_init
  n_Wish_atmost : NoAttr K C_Wish "atmost"
  n_Wish_left : NoAttr K C_Wish "left"
  n_Wish_worn : NoAttr K C_Wish "worn"
  n_Wish_anew : NoAttr K C_Wish "anew"
  n_Wish_kept : NoAttr K C_Wish "kept"
  n_Wish_firm : NoAttr K C_Wish "firm"
  kb_0 : ∃ gg, KBn K fd_Rule_init ["self", "keep", "worn", "alone", "anew", "own", "common", "never", "strict"] 1 ["keep", "worn", "alone", "anew", "own", "common", "never", "strict"] gg (fun vs zs => vs ++ pickKw [.inr 0, .inr 1, .inr 2, .inr 3, .inr 4, .inr 5, .inr 6, .inr 7] (([] : List (Str × V)).map (·.2)) zs)
  kb_1 : ∃ gg, KBn K fd_Wish_init ["self", "atmost", "left", "worn", "anew", "kept", "firm"] 1 ["atmost", "left", "worn", "anew", "kept", "firm"] gg (fun vs zs => vs ++ pickKw [.inr 0, .inr 1, .inr 2, .inr 3, .inr 4, .inr 5] (([] : List (Str × V)).map (·.2)) zs)
  kb_2 : ∃ gg, KBn K fd_serves ["rule", "wish", "age", "alone"] 3 ["alone"] gg (fun vs zs => vs ++ pickKw [.inr 0] (([] : List (Str × V)).map (·.2)) zs)
  kb_3 : ∃ ds, Vals (([("alone", .bl false)] : List (Str × V)).map (·.2)) ds ∧ Binds K fd_serves ["rule", "wish", "age", "alone"] ds
  t_LETTERS : Tok
  g_LETTERS : mg "LETTERS" = some (.str "abcdefghijklmnopqrstuvwxyz" t_LETTERS)
  t_FIGURES : Tok
  g_FIGURES : mg "FIGURES" = some (.str "0123456789" t_FIGURES)
  t_LONGEST_NAME : Tok
  g_LONGEST_NAME : mg "LONGEST_NAME" = some (.int 8 t_LONGEST_NAME)
  t_MOST_FIGURES : Tok
  g_MOST_FIGURES : mg "MOST_FIGURES" = some (.int 60 t_MOST_FIGURES)
  a_RULE_NUMBERS : Addr
  g_RULE_NUMBERS : mg "RULE_NUMBERS" = some (.ref a_RULE_NUMBERS)
  q_RULE_NUMBERS : ∀ H : Hp, SqT K H a_RULE_NUMBERS ([.str "keep", .str "worn", .str "alone"] : List V)
  a_RULE_TRUTHS : Addr
  g_RULE_TRUTHS : mg "RULE_TRUTHS" = some (.ref a_RULE_TRUTHS)
  q_RULE_TRUTHS : ∀ H : Hp, SqT K H a_RULE_TRUTHS ([.str "anew", .str "own", .str "common", .str "never", .str "strict"] : List V)
  a_WISH_NUMBERS : Addr
  g_WISH_NUMBERS : mg "WISH_NUMBERS" = some (.ref a_WISH_NUMBERS)
  q_WISH_NUMBERS : ∀ H : Hp, SqT K H a_WISH_NUMBERS ([.str "atmost", .str "left", .str "worn"] : List V)
  a_WISH_TRUTHS : Addr
  g_WISH_TRUTHS : mg "WISH_TRUTHS" = some (.ref a_WISH_TRUTHS)
  q_WISH_TRUTHS : ∀ H : Hp, SqT K H a_WISH_TRUTHS ([.str "anew", .str "kept", .str "firm"] : List V)
  a_SERVED : Addr
  g_SERVED : mg "SERVED" = some (.ref a_SERVED)
  q_SERVED : ∀ H : Hp, SqT K H a_SERVED ([.str "fresh", .str "let", .str "worn"] : List V)
  m_all : mg "all" = none
  m_enumerate : mg "enumerate" = none
  m_int : mg "int" = none
  m_isinstance : mg "isinstance" = none
  m_len : mg "len" = none
  m_list : mg "list" = none
  m_max : mg "max" = none
  m_min : mg "min" = none
  m_range : mg "range" = none
  m_str : mg "str" = none
/-! ### what is asked about -/
inductive Thing (H : Hp) : V → Prop where
  | str (z : Str) (h : z.length ≤ 20000) : Thing H (.str z)
  | non : Thing H .non
  | bl (b : Bool) : Thing H (.bl b)
  | int (i : Int) : Thing H (.int i)
  | lst {p : Addr} {xs : List V} (h : H p = some (.lst xs)) : Thing H (.ref p)
  | tup {p : Addr} {xs : List V} (h : H p = some (.tup xs)) : Thing H (.ref p)
  | dK {p : Addr} {xs : List (Key × V)} (h : H p = some (.dK xs)) : Thing H (.ref p)
theorem Thing.mono {H H' : Hp} {v : V} (e : Same H H') (t : Thing H v) : Thing H' v := by
  cases t with
  | str z h => exact .str z h
  | non => exact .non
  | bl b => exact .bl b
  | int i => exact .int i
  | lst h => exact .lst (e _ _ h)
  | tup h => exact .tup (e _ _ h)
  | dK h => exact .dK (e _ _ h)
def ans (f : Str → Bool) : V → Bool
  | .str z => f z
  | _ => false
theorem Thing.two {K : PySem.W.Frag} {H : Hp} {v : V} (t : Thing H v) : (∃ z, v = .str z ∧ z.length ≤ 20000) ∨ ∃ n : String, TyX K H v (.type n) ∧ kitB n "str" = some false ∧ ∀ f, ans f v = false := by
  cases t with
  | str z h => exact .inl ⟨z, rfl, h⟩
  | non => exact .inr ⟨_, .base .non, by decide +kernel, fun _ => rfl⟩
  | bl b => exact .inr ⟨_, .base (.bl b), by decide +kernel, fun _ => rfl⟩
  | int i => exact .inr ⟨_, .base (.int i), by decide +kernel, fun _ => rfl⟩
  | lst h => exact .inr ⟨_, .base (.lst h), by decide +kernel, fun _ => rfl⟩
  | tup h => exact .inr ⟨_, .base (.tup h), by decide +kernel, fun _ => rfl⟩
  | dK h => exact .inr ⟨_, .base (.dK h), by decide +kernel, fun _ => rfl⟩
theorem kit_str {K : PySem.W.Frag} : PySem.W.kitOne K (.type "str") (.type "str") = some true := kit_ty (by decide +kernel)
/-! ### the mathematics: what each word is -/
def inB (sg z : Str) : Bool := z.cps.toList.all fun c => decide (c ∈ sg.cps.toList)
def ofB (sg : Str) (lo hi : Int) (z : Str) : Bool := (decide (lo ≤ z.length) && decide ((z.length : Int) ≤ hi)) && inB sg z
def nought (z : Str) : Bool := decide (z = "0") || !decide (z.cps.toList.head? = some 48)
def figB (z : Str) : Bool := ofB "0123456789" 1 60 z && nought z

/-! ### rules and wishes: what they bear -/
structure RuleR where
  keep : Int
  worn : Int
  alone : Int
  anew : Bool
  own : Bool
  common : Bool
  never : Bool
  strict : Bool
structure WishR where
  atmost : Option Int
  left : Int
  worn : Int
  anew : Bool
  kept : Bool
  firm : Bool
def fR (r : RuleR) : List (Str × V) := putF "strict" (.bl r.strict) (putF "never" (.bl r.never) (putF "common" (.bl r.common) (putF "own" (.bl r.own) (putF "anew" (.bl r.anew) (putF "alone" (.int r.alone) (putF "worn" (.int r.worn) (putF "keep" (.int r.keep) [])))))))
def fW (r : WishR) : List (Str × V) := putF "firm" (.bl r.firm) (putF "kept" (.bl r.kept) (putF "anew" (.bl r.anew) (putF "worn" (.int r.worn) (putF "left" (.int r.left) (putF "atmost" (oV r.atmost) [])))))
theorem fR_keep (r : RuleR) : (fR r).lookup ("keep" : Str) = some (.int r.keep) := by unfold fR; (repeat (rw [lookup_putF, if_neg (by decide +kernel)])); rw [lookup_putF, if_pos rfl]
theorem fR_worn (r : RuleR) : (fR r).lookup ("worn" : Str) = some (.int r.worn) := by unfold fR; (repeat (rw [lookup_putF, if_neg (by decide +kernel)])); rw [lookup_putF, if_pos rfl]
theorem fR_alone (r : RuleR) : (fR r).lookup ("alone" : Str) = some (.int r.alone) := by unfold fR; (repeat (rw [lookup_putF, if_neg (by decide +kernel)])); rw [lookup_putF, if_pos rfl]
theorem fR_anew (r : RuleR) : (fR r).lookup ("anew" : Str) = some (.bl r.anew) := by unfold fR; (repeat (rw [lookup_putF, if_neg (by decide +kernel)])); rw [lookup_putF, if_pos rfl]
theorem fR_own (r : RuleR) : (fR r).lookup ("own" : Str) = some (.bl r.own) := by unfold fR; (repeat (rw [lookup_putF, if_neg (by decide +kernel)])); rw [lookup_putF, if_pos rfl]
theorem fR_common (r : RuleR) : (fR r).lookup ("common" : Str) = some (.bl r.common) := by unfold fR; (repeat (rw [lookup_putF, if_neg (by decide +kernel)])); rw [lookup_putF, if_pos rfl]
theorem fR_never (r : RuleR) : (fR r).lookup ("never" : Str) = some (.bl r.never) := by unfold fR; (repeat (rw [lookup_putF, if_neg (by decide +kernel)])); rw [lookup_putF, if_pos rfl]
theorem fR_strict (r : RuleR) : (fR r).lookup ("strict" : Str) = some (.bl r.strict) := by unfold fR; rw [lookup_putF, if_pos rfl]
theorem fW_atmost (r : WishR) : (fW r).lookup ("atmost" : Str) = some (oV r.atmost) := by unfold fW; (repeat (rw [lookup_putF, if_neg (by decide +kernel)])); rw [lookup_putF, if_pos rfl]
theorem fW_left (r : WishR) : (fW r).lookup ("left" : Str) = some (.int r.left) := by unfold fW; (repeat (rw [lookup_putF, if_neg (by decide +kernel)])); rw [lookup_putF, if_pos rfl]
theorem fW_worn (r : WishR) : (fW r).lookup ("worn" : Str) = some (.int r.worn) := by unfold fW; (repeat (rw [lookup_putF, if_neg (by decide +kernel)])); rw [lookup_putF, if_pos rfl]
theorem fW_anew (r : WishR) : (fW r).lookup ("anew" : Str) = some (.bl r.anew) := by unfold fW; (repeat (rw [lookup_putF, if_neg (by decide +kernel)])); rw [lookup_putF, if_pos rfl]
theorem fW_kept (r : WishR) : (fW r).lookup ("kept" : Str) = some (.bl r.kept) := by unfold fW; (repeat (rw [lookup_putF, if_neg (by decide +kernel)])); rw [lookup_putF, if_pos rfl]
theorem fW_firm (r : WishR) : (fW r).lookup ("firm" : Str) = some (.bl r.firm) := by unfold fW; rw [lookup_putF, if_pos rfl]
def RuleAt (C : Addr) (H : Hp) (p : Addr) (r : RuleR) : Prop := ∃ dx, H p = some (.ins C dx (fR r))
def WishAt (C : Addr) (H : Hp) (p : Addr) (r : WishR) : Prop := ∃ dx, H p = some (.ins C dx (fW r))
theorem RuleAt.mono {C : Addr} {H H' : Hp} {p : Addr} {r : RuleR} (s : Same H H') : RuleAt C H p r → RuleAt C H' p r := fun ⟨dx, h⟩ => ⟨dx, s _ _ h⟩
theorem WishAt.mono {C : Addr} {H H' : Hp} {p : Addr} {r : WishR} (s : Same H H') : WishAt C H p r → WishAt C H' p r := fun ⟨dx, h⟩ => ⟨dx, s _ _ h⟩
theorem ins_ne {H : Hp} {W p C dx : Addr} {fs : List (Str × V)} (hI : IsW H W) (h : H p = some (.ins C dx fs)) : p ≠ W := by
  obtain ⟨a, b, c, hw⟩ := hI
  rintro rfl
  rw [hw] at h
  cases h
theorem RuleAt.wx {C W : Addr} {H H' : Hp} {p : Addr} {r : RuleR} (hI : IsW H W) (x : Wx W H H') : RuleAt C H p r → RuleAt C H' p r := fun ⟨dx, h⟩ => ⟨dx, x.keep _ _ (ins_ne hI h) h⟩
theorem WishAt.wx {C W : Addr} {H H' : Hp} {p : Addr} {r : WishR} (hI : IsW H W) (x : Wx W H H') : WishAt C H p r → WishAt C H' p r := fun ⟨dx, h⟩ => ⟨dx, x.keep _ _ (ins_ne hI h) h⟩
def spRInit (C : Addr) : Sp := fun vs H Q _ => ∃ (p dx : Addr) (r : RuleR), vs = [.ref p, .int r.keep, .int r.worn, .int r.alone, .bl r.anew, .bl r.own, .bl r.common, .bl r.never, .bl r.strict] ∧ H p = some (.ins C dx []) ∧ Q .non (upd H p (.ins C dx (fR r)))
def spWInit (C : Addr) : Sp := fun vs H Q _ => ∃ (p dx : Addr) (r : WishR), vs = [.ref p, oV r.atmost, .int r.left, .int r.worn, .bl r.anew, .bl r.kept, .bl r.firm] ∧ H p = some (.ins C dx []) ∧ Q .non (upd H p (.ins C dx (fW r)))

/-! ### words of a rule or a wish -/
abbrev Wd := Str × Option Int
def nameB (z : Str) : Bool := ofB "abcdefghijklmnopqrstuvwxyz" 1 8 z
theorem u65 {k : Nat} {A : Around} (hr : Room k A) : A.units + 65 < cLine := by
  have := hr.un
  omega
theorem inB_digits {z : Str} (h : inB "0123456789" z = true) : NumText.AllDigits z.cps.toList := by
  intro c hc
  unfold inB at h
  have := List.all_eq_true.mp h c hc
  exact (by decide : ∀ c ∈ ("0123456789" : Str).cps.toList, 48 ≤ c ∧ c ≤ 57) c (of_decide_eq_true this)
theorem fig_int {z : Str} (h : figB z = true) : ∃ n : Nat, intText? z = some (n : Int) ∧ z.length ≤ 60 := by
  unfold figB ofB at h
  simp only [Bool.and_eq_true, decide_eq_true_eq] at h
  obtain ⟨⟨⟨h1, h2⟩, h3⟩, _⟩ := h
  refine ⟨_, intText_digits (inB_digits h3) (fun e => ?_) (by omega), by omega⟩
  have := len_tl z
  have e' : z.cps.toList.length = 0 := by rw [e]; rfl
  have h1' : (1 : Int) ≤ (z.length : Int) := h1
  omega
/-- the word that a piece tells -/
def wordT (z : Str) : Option Wd :=
  if nameB (Txt.partition z " ").1 = true then
    (if V.str (Txt.partition z " ").2.1 = V.str "" then some ((Txt.partition z " ").1, none) else if figB (Txt.partition z " ").2.2 = true then some ((Txt.partition z " ").1, intText? (Txt.partition z " ").2.2) else none)
  else none
def wordsT (z : Str) : List (Option Wd) := if V.str (Txt.stripChars z " ") = V.str "" then [] else (Txt.split z ",").map fun p => wordT (Txt.stripChars p " ")
def suitB (ns ts : List Str) (d : Wd) : Bool := if decide (d.1 ∈ ns) = true then d.2.isSome else (!decide (d.1 ∈ ts) || d.2.isNone)
def badB (ns ts : List Str) : Option Wd → Bool
  | none => true
  | some d => !suitB ns ts d
def wrongAt (ns ts : List Str) (ws : List (Option Wd)) : Option Nat := ws.findIdx? (badB ns ts)
def numsT (name : Str) (ds : List Wd) : List (Option Int) := (ds.filter fun d => decide (d.1 = name)).map (·.2)
def toldT (name : Str) (ds : List Wd) : Bool := ds.any fun d => decide (d.1 = name) && d.2.isNone
def PWd (H : Hp) (v : V) : Option Wd → Prop
  | none => v = .non
  | some d => ∃ t : Addr, v = .ref t ∧ H t = some (.tup [.str d.1, oV d.2])
theorem PWd.mono {H H' : Hp} {v : V} {w : Option Wd} (s : Same H H') (h : PWd H v w) : PWd H' v w := by
  cases w with
  | none => exact h
  | some d =>
    obtain ⟨t, e, h⟩ := h
    exact ⟨t, e, s _ _ h⟩
theorem pwd_mono {H H' : Hp} {xs : List V} {ws : List (Option Wd)} (s : Same H H') (h : Paired (PWd H) xs ws) : Paired (PWd H') xs ws := Paired.mono (fun _ _ => PWd.mono s) h
theorem pwd_upd {H : Hp} {D : Addr} {zs : List V} {o : HO} {xs : List V} {ws : List (Option Wd)} (hD : H D = some (.lst zs)) (h : Paired (PWd H) xs ws) : Paired (PWd (upd H D o)) xs ws := Paired.mono (fun v w h => by
  cases w with
  | none => exact h
  | some d =>
    obtain ⟨t, e, h⟩ := h
    refine ⟨t, e, ?_⟩
    rw [upd_ne]
    · exact h
    · intro z
      rw [z, hD] at h
      cases h) h
theorem paired_app {α β : Type} {R : α → β → Prop} : ∀ {a : List α} {b : List β} {c : List α} {d : List β}, Paired R a b → Paired R c d → Paired R (a ++ c) (b ++ d)
  | _, _, _, _, .nil, h => h
  | _, _, _, _, .cons x t, h => .cons x (paired_app t h)
theorem paired_at {α β : Type} {R : α → β → Prop} : ∀ {a : List α} {b : List β} {i : Nat} {x : α}, Paired R a b → a[i]? = some x → ∃ y, b[i]? = some y ∧ R x y
  | _, _, _, _, .nil, h => by simp at h
  | _, _, 0, _, .cons r t, h => by
    cases h
    exact ⟨_, rfl, r⟩
  | _, _, n + 1, _, .cons r t, h => by
    obtain ⟨y, h1, h2⟩ := paired_at (i := n) t h
    exact ⟨y, h1, h2⟩
/-- words as data -/
def wdD (d : Wd) : PyData := .tuple [.str d.1, od d.2]
theorem dp_wds {K : PySem.W.Frag} {H : Hp} : ∀ {xs : List V} {ds : List Wd}, Paired (PWd H) xs (ds.map some) → DpAll K H xs (ds.map wdD)
  | _, [], .nil => .nil
  | _, d :: ds, .cons h t => by
    obtain ⟨a, rfl, h⟩ := h
    exact .cons (.tup (SqT.of h) (.cons (.str _) (.cons (dp_od _) .nil))) (dp_wds t)
theorem od_lay (x : Option Int) : PyData.canLay0 (od x) = true := by cases x <;> simp [od, PyData.canLay0]
theorem od_depth (x : Option Int) : PyData.depth (od x) = 0 := by cases x <;> simp [od, PyData.depth]
theorem lay_wds : ∀ ds : List Wd, (∀ d ∈ ds, Asc d.1) → PyData.canLayAll0 (ds.map wdD) = true
  | [], _ => rfl
  | d :: r, h => by simp [PyData.canLayAll0, PyData.canLay0, wdD, od_lay, ok_asc (h d (List.mem_cons_self ..)), lay_wds r fun y hy => h y (List.mem_cons_of_mem _ hy)]
theorem depth_wds : ∀ ds : List Wd, PyData.depthAll (ds.map wdD) ≤ 1
  | [] => Nat.zero_le _
  | d :: r => by
    have := depth_wds r
    simp only [List.map_cons, PyData.depthAll, wdD, PyData.depth, od_depth]
    show max _ _ ≤ 1
    have e : max 0 (max 0 0) + 1 = 1 := rfl
    omega
theorem shaped_wds {ds : List Wd} (h : ∀ d ∈ ds, Asc d.1) : SeqAt.shaped (.list (ds.map wdD)) = true := by
  have := depth_wds ds
  simp only [SeqAt.shaped, PyData.canLay0, PyData.depth, lay_wds ds h, Bool.true_and]
  exact decide_eq_true (by omega)
theorem any_wds (name : Str) (ds : List Wd) : ((ds.map wdD).any fun z => PyData.eqv z (.tuple [.str name, .none])) = toldT name ds := by
  unfold toldT
  rw [List.any_map]
  congr 1
  funext d
  obtain ⟨a, b⟩ := d
  cases b with
  | none =>
    show PyData.eqv (.tuple [.str a, .none]) (.tuple [.str name, .none]) = _
    simp [PyData.eqv, PyData.eqvAll]
    rw [Bool.eq_iff_iff]
    simp
  | some n =>
    show PyData.eqv (.tuple [.str a, .int n]) (.tuple [.str name, .none]) = _
    simp [PyData.eqv, PyData.eqvAll]
theorem name_asc {z : Str} (h : nameB z = true) : Asc z := by
  intro c hc
  unfold nameB ofB inB at h
  simp only [Bool.and_eq_true] at h
  have := List.all_eq_true.mp h.2 c hc
  exact (by decide : ∀ c ∈ ("abcdefghijklmnopqrstuvwxyz" : Str).cps.toList, c < 128) c (of_decide_eq_true this)
theorem word_name {z : Str} {d : Wd} (h : wordT z = some d) : nameB d.1 = true := by
  unfold wordT at h
  split at h
  · rename_i e
    split at h
    · cases h
      exact e
    · split at h
      · cases h
        exact e
      · cases h
  · cases h
/-- the words of a text, where none is wrong -/
theorem words_all {ns ts : List Str} {ws : List (Option Wd)} (h : wrongAt ns ts ws = none) : ∃ ds : List Wd, ws = ds.map some ∧ ∀ d ∈ ds, suitB ns ts d = true := by
  have h' := List.findIdx?_eq_none_iff.mp h
  clear h
  induction ws with
  | nil => exact ⟨[], rfl, fun _ z => nomatch z⟩
  | cons w r ih =>
    obtain ⟨ds, e, hd⟩ := ih fun x hx => h' x (List.mem_cons_of_mem _ hx)
    have hw := h' w (List.mem_cons_self ..)
    cases w with
    | none => cases hw
    | some d =>
      refine ⟨d :: ds, by rw [e]; rfl, fun x hx => ?_⟩
      rcases List.mem_cons.mp hx with rfl | hx
      · simpa [badB] using hw
      · exact hd x hx
theorem words_names {z : Str} {ds : List Wd} (h : wordsT z = ds.map some) : ∀ d ∈ ds, nameB d.1 = true := fun d hd => by
  have h1 : some d ∈ wordsT z := by
    rw [h]
    exact List.mem_map.mpr ⟨d, hd, rfl⟩
  unfold wordsT at h1
  split at h1
  · cases h1
  · obtain ⟨p, _, e⟩ := List.mem_map.mp h1
    exact word_name e
theorem nums_some {ns ts : List Str} {ds : List Wd} {name : Str} (hd : ∀ d ∈ ds, suitB ns ts d = true) (hn : name ∈ ns) : ∃ is : List Int, numsT name ds = is.map some := by
  unfold numsT
  induction ds with
  | nil => exact ⟨[], rfl⟩
  | cons d r ih =>
    obtain ⟨is, e⟩ := ih fun x hx => hd x (List.mem_cons_of_mem _ hx)
    by_cases h : d.1 = name
    · have h1 := hd d (List.mem_cons_self ..)
      unfold suitB at h1
      rw [h, if_pos (decide_eq_true hn)] at h1
      obtain ⟨i, hi⟩ := Option.isSome_iff_exists.mp h1
      refine ⟨i :: is, ?_⟩
      rw [List.filter_cons, if_pos (decide_eq_true h), List.map_cons, e, hi]
      rfl
    · refine ⟨is, ?_⟩
      rw [List.filter_cons, if_neg (by rw [decide_eq_false h]; exact Bool.false_ne_true), e]
def intsT (name : Str) (ds : List Wd) : List Int := (numsT name ds).filterMap id
theorem ints_of {name : Str} {ds : List Wd} {is : List Int} (h : numsT name ds = is.map some) : intsT name ds = is := by
  unfold intsT
  rw [h, List.filterMap_map]
  show is.filterMap some = is
  exact List.filterMap_some
def ruleOf (ds : List Wd) : RuleR := ⟨(minI (intsT "keep" ds)).getD 0, (minI (intsT "worn" ds)).getD 0, (minI (intsT "alone" ds)).getD 0, toldT "anew" ds, toldT "own" ds, toldT "common" ds, toldT "never" ds, toldT "strict" ds⟩
def wishOf (ds : List Wd) : WishR := ⟨minI (intsT "atmost" ds), (maxI (intsT "left" ds)).getD 0, (minI (intsT "worn" ds)).getD 0, toldT "anew" ds, toldT "kept" ds, toldT "firm" ds⟩
def rNs : List Str := ["keep", "worn", "alone"]
def rTs : List Str := ["anew", "own", "common", "never", "strict"]
def wNs : List Str := ["atmost", "left", "worn"]
def wTs : List Str := ["anew", "kept", "firm"]

section
variable {P : Program} {w : World} {K : PySem.W.Frag} {mg : Str → Option Value} {base : Heap}
def spMade : Sp := fun vs H Q _ => ∃ (v : V) (sg : Str) (lo hi : Int), vs = [v, .str sg, .int lo, .int hi] ∧ Thing H v ∧ ∀ H', Same H H' → Q (.bl (ans (ofB sg lo hi) v)) H'
theorem ok_is_made_of (T : Txt K mg) : FnOk P w K mg base CX0 1 T.f_is_made_of T.fd_is_made_of ["text", "signs", "least", "most"] spMade := by
  refine T.d_is_made_of.F.ok sc_is_made_of (fun vs H Q E h => ?_) (fun cdv A outer s H vs Q E hr h => ?_)
  · obtain ⟨v, sg, lo, hi, rfl, _⟩ := h
    rfl
  · obtain ⟨v, sg, lo, hi, rfl, th, q⟩ := h
    refine ⟨_, (pss_cons (ps_if (pt_not (pt_val (pe_callB call_isi (by rfl) T.m_isinstance (by decide +kernel) (pa_cons (pv 0) (pa_cons (pe_bltn (v := .ty "str") (by rfl) T.m_str (by decide +kernel) rfl) pa_nil)))))
      (pss_one (ps_ret pe_bl))
      pss_nil)
      (pss_cons (ps_if (PW.pt (pw_or (pt_cmpR op_lt (pe_callB call_len_str (by rfl) T.m_len (by decide +kernel) (pa_cons (pv 0) pa_nil)) (pv 2) (nomark _)) (pw_or1 (pt_cmpR op_gt (pe_callB call_len_str (by rfl) T.m_len (by decide +kernel) (pa_cons (pv 0) pa_nil)) (pv 3) (nomark _)))))
      (pss_one (ps_ret pe_bl))
      pss_nil)
      (pss_one (ps_ret (pe_callB (cr_all rfl) (by rfl) T.m_all (by decide +kernel) (pa_cons (pe_lc (own := [("sign", 4)]) (g := gName 4) (tt := tYes) (by rfl) sc_is_made_of.nd (pi_str (pv 0)) (blkOk_by (own := [("sign", 4)]) (N := ["text", "signs", "least", "most", "sign"]) (sc := defScope s_is_made_of) (by decide +kernel)) (fun _ _ _ _ _ => (pg_name (i := 4) sc_is_made_of.nd rfl (Or.inl rfl))) (fun _ _ _ _ _ => pts_nil) (fun _ _ _ _ _ => (pe_cmpR op_in_sign (pv 4) (pv 1) rfl))) pa_nil)))))), ?_⟩
    rcases th.two (K := K) with ⟨z, rfl, hz⟩ | ⟨n, ty, nk, ef⟩
    · refine ⟨.str z, rfl, .str z, .ty "str", _, _, true, rfl, .ty "str", .base (.str z), kit_str, true, rfl, ?_⟩
      refine ⟨.str z, rfl, z, rfl, szl (by omega), .int lo, rfl, _, lo, rfl, rfl, _, rfl, ite2 (fun e => ?_) (fun e => ?_)⟩
      · have h1 : (z.length : Int) < lo := of_decide_eq_true e
        have h2 := q H (Same.refl H)
        have h3 : ans (ofB sg lo hi) (.str z) = false := by
          show ((decide (lo ≤ (z.length : Int)) && decide ((z.length : Int) ≤ hi)) && inB sg z) = false
          rw [decide_eq_false (by omega)]
          rfl
        rw [h3] at h2
        exact h2
      · have h1 : ¬ (z.length : Int) < lo := fun x => e (decide_eq_true x)
        refine ⟨.str z, rfl, z, rfl, szl (by omega), .int hi, rfl, _, hi, rfl, rfl, _, rfl, ?_⟩
        show if _ = true then _ else _
        refine ite2 (fun e2 => ?_) (fun e2 => ?_)
        · have h1 : hi < (z.length : Int) := of_decide_eq_true e2
          have h2 := q H (Same.refl H)
          have h3 : ans (ofB sg lo hi) (.str z) = false := by
            show ((decide (lo ≤ (z.length : Int)) && decide ((z.length : Int) ≤ hi)) && inB sg z) = false
            rw [decide_eq_false (show ¬ (z.length : Int) ≤ hi by omega), Bool.and_false]
            rfl
          rw [h3] at h2
          exact h2
        · have h2 : ¬ hi < (z.length : Int) := fun x => e2 (decide_eq_true x)
          refine ⟨.str z, rfl, z, rfl, fun D hD => ?_⟩
          refine lc_it walk_str (fun i H' => Same H H' ∧ H' D = some (.lst ((z.cps.toList.take i).map fun c => V.bl (decide (c ∈ sg.cps.toList))))) ⟨same_upd hD, upd_same⟩ (fun _ _ _ _ => trivial) ?_ ?_
          · rintro i x H1 H2 hi1 ⟨sm, eD⟩ ⟨rfl, c, hc, rfl⟩
            refine ⟨rfl, _, rfl, _, rfl, c, sg, rfl, rfl, _, eD, ?_, same_mut sm hD, ?_⟩
            · rw [List.length_map, List.length_take, len_tl]
              exact szlt (by omega)
            · rw [upd_same, take_map _ (at_l hc)]
          · rintro H1 ⟨sm, eD⟩
            refine ⟨D, z.cps.toList.map fun c => decide (c ∈ sg.cps.toList), rfl, SqL.of ?_, ?_⟩
            · rw [eD, List.map_map, List.take_of_length_le (show z.cps.toList.length ≤ z.cps.size from Nat.le_of_eq (len_tl z))]
              rfl
            · have h4 := q H1 sm
              have h3 : ans (ofB sg lo hi) (.str z) = (z.cps.toList.map fun c => decide (c ∈ sg.cps.toList)).all id := by
                show ((decide (lo ≤ (z.length : Int)) && decide ((z.length : Int) ≤ hi)) && inB sg z) = _
                rw [decide_eq_true (by omega), decide_eq_true (by omega), List.all_map]
                rfl
              rw [h3] at h4
              exact h4
    · refine ⟨v, rfl, v, .ty "str", _, _, false, rfl, .ty "str", ty, kit_ty nk, false, rfl, ?_⟩
      have h2 := q H (Same.refl H)
      rw [ef] at h2
      exact h2
def spIs (f : Str → Bool) : Sp := fun vs H Q _ => ∃ (v : V), vs = [v] ∧ Thing H v ∧ ∀ H', Same H H' → Q (.bl (ans f v)) H'
theorem head_at {z : Str} (h : 0 < z.length) : ∃ c, z.cps.toList.head? = some c ∧ atI z.cps.toList 0 = some c := by
  have hl := len_tl z
  cases e : z.cps.toList with
  | nil =>
    rw [e] at hl
    have : 0 = z.length := hl
    omega
  | cons c r => exact ⟨c, rfl, atI_nat (j := 0) rfl⟩
theorem nought_ne {z : Str} {c : Nat} (h : z.cps.toList.head? = some c) : nought z = (decide (V.str z = V.str "0") || !decide (V.str ⟨#[c]⟩ = V.str "0")) := by
  unfold nought
  rw [h]
  have e1 : decide (V.str z = V.str "0") = decide (z = "0") := by
    by_cases h : z = "0"
    · rw [decide_eq_true h, decide_eq_true (congrArg V.str h)]
    · rw [decide_eq_false h, decide_eq_false fun x => h (V.str.inj x)]
  have e2 : decide (V.str ⟨#[c]⟩ = V.str "0") = decide (some c = some 48) := by
    by_cases h : c = 48
    · subst h
      decide
    · rw [decide_eq_false fun x => h (Option.some.inj x), decide_eq_false fun x => h ?_]
      have y : (⟨#[c]⟩ : Str) = ⟨#[48]⟩ := (V.str.inj x).trans (by decide)
      have y2 : (#[c] : Array Nat) = #[48] := congrArg Str.cps y
      have y3 := congrArg (fun a : Array Nat => a.toList) y2
      exact (List.cons.inj y3).1
  rw [e1, e2]
theorem ofB_len {sg : Str} {lo hi : Int} {z : Str} (h : ofB sg lo hi z = true) : lo ≤ z.length := by
  unfold ofB at h
  simp only [Bool.and_eq_true, decide_eq_true_eq] at h
  exact h.1.1
theorem ok_is_figures (T : Txt K mg) : FnOk P w K mg base CX0 2 T.f_is_figures T.fd_is_figures ["text"] (spIs figB) := by
  refine T.d_is_figures.F.ok sc_is_figures (fun vs H Q E h => ?_) (fun cdv A outer s H vs Q E hr h => ?_)
  · obtain ⟨v, rfl, _⟩ := h
    rfl
  · obtain ⟨v, rfl, th, q⟩ := h
    refine ⟨_, (pss_cons (ps_if (pt_not (pt_val (pe_call (ok_is_made_of T) (hr.mono (by decide)) (by rfl) T.d_is_made_of.g T.d_is_made_of.F.kp T.d_is_made_of.b .nil pass0 (pa_cons (pv 0) (pa_cons (pe_glob (v := .str "0123456789") (by rfl) T.g_FIGURES ⟨_, rfl⟩) (pa_cons pe_int (pa_cons (pe_glob (v := .int 60) (by rfl) T.g_MOST_FIGURES ⟨_, rfl⟩) pa_nil)))))))
      (pss_one (ps_ret pe_bl))
      pss_nil)
      (pss_one (ps_ret (pe_or (pe_cmpR op_eq (pv 0) pe_str (nomark _)) (pe_one (pe_cmpR op_ne (pe_ix ix_str (pv 0) pe_int (fun _ _ => rfl)) pe_str (nomark _))))))), ?_⟩
    refine ⟨v, rfl, v, _, _, _, rfl, th, fun H1 sm => ⟨_, rfl, ?_⟩⟩
    show if (!ans (ofB "0123456789" 1 60) v) = true then _ else _
    refine ite2 (fun e => ?_) (fun e => ?_)
    · have e1 : ans (ofB "0123456789" 1 60) v = false := by simpa using e
      have h2 := q H1 sm
      have e2 : ans figB v = false := by
        cases v <;> first | rfl | skip
        show (ofB "0123456789" 1 60 _ && _) = false
        rw [show ofB "0123456789" 1 60 _ = false from e1]
        rfl
      rw [e2] at h2
      exact h2
    · have e1 : ans (ofB "0123456789" 1 60) v = true := by simpa using e
      rcases th.two (K := K) with ⟨z, rfl, hz⟩ | ⟨n, ty, nk, ef⟩
      · have l0 : 0 < z.length := by
          have := ofB_len (show ofB "0123456789" 1 60 z = true from e1)
          omega
        obtain ⟨c, hc, ec⟩ := head_at l0
        have h2 := q H1 sm
        have e3 : ans figB (.str z) = (decide (V.str z = V.str "0") || !decide (V.str ⟨#[c]⟩ = V.str "0")) := by
          show (ofB "0123456789" 1 60 z && nought z) = _
          rw [show ofB "0123456789" 1 60 z = true from e1, nought_ne hc]
          rfl
        rw [e3] at h2
        refine ⟨_, rfl, rfl, _, rfl, ite2 (fun e4 => ?_) (fun e4 => ?_)⟩
        · rw [e4, Bool.true_or] at h2
          exact h2
        · refine ⟨_, rfl, z, 0, c, rfl, rfl, szl (by omega), ec, rfl, ?_⟩
          have e5 : decide (V.str z = V.str "0") = false := by simpa using e4
          rw [e5, Bool.false_or] at h2
          exact h2
      · rw [ef] at e1
        cases e1

theorem ok_law_well (T : Txt K mg) : FnOk P w K mg base CX0 1 T.f_law_well T.fd_law_well ["_law_cell"] spWell := by
  refine T.d_law_well.F.ok sc_law_well (fun vs H Q E h => ?_) (fun cdv A outer s H vs Q E hr h => ?_)
  · obtain ⟨n, rfl, _⟩ := h
    rfl
  · obtain ⟨n, rfl, q⟩ := h
    refine ⟨_, (pss_one (ps_ret (pe_lst (pa_cons (pe_op op_mul (pv 0) (pe_callTy call_int1 (by rfl) T.m_int (by decide +kernel) (pa_cons (pe_cmpR op_ge (pv 0) (pe_op op_pow pe_int pe_int) (nomark _)) pa_nil))) (pa_cons (pe_op op_mod (pv 0) pe_int) (pa_cons pe_int pa_nil)))))), ?_⟩
    refine ⟨.int n, rfl, .int n, rfl, 10, 18, rfl, rfl, ⟨by decide, by decide, by decide⟩, n, _, rfl, rfl, .inr ⟨_, rfl, n, _, rfl, rfl, ?_, .int n, rfl, n, _, rfl, rfl, (show (0 : Int) < 2147483647 by decide), ?_⟩⟩
    · refine .inr ?_
      split <;> decide
    · exact ⟨(by show 3 ≤ sizeLine; decide), fun p hp => q p _ _ _ hp⟩
theorem ok_law_draw (T : Txt K mg) : FnOk P w K mg base CX0 1 T.f_law_draw T.fd_law_draw ["_law_well_here", "_law_many"] spDraw := by
  refine T.d_law_draw.F.ok sc_law_draw (fun vs H Q E h => ?_) (fun cdv A outer s H vs Q E hr h => ?_)
  · obtain ⟨W, m, rfl, _⟩ := h
    rfl
  · obtain ⟨W, m, rfl, m0, m1, hI, q⟩ := h
    obtain ⟨a, b, c, hW⟩ := id hI
    have i0 : atI [V.int a, .int b, .int c] 0 = some (.int a) := rfl
    have i1 : atI [V.int a, .int b, .int c] 1 = some (.int b) := rfl
    have i2 : atI [V.int a, .int b, .int c] 2 = some (.int c) := rfl
    refine ⟨_, (pss_cons (ps_if (pt_cmpR op_gt (pe_ix ix_list (pv 0) pe_int (fun _ _ => rfl)) pe_int (nomark _))
      (pss_cons (ps_set (i := 2) sc_law_draw.nd rfl (.inl rfl) (pe_op op_mod (pe_ix ix_list (pv 0) pe_int (fun _ _ => rfl)) (pv 1)))
      (pss_cons (ps_asg (pe_op op_fdiv (pe_ix ix_list (pv 0) pe_int (fun _ _ => rfl)) (pv 1)) (pg_sub (pv 0) pe_int set_list))
      (pss_one (ps_ret (pv 2)))))
      pss_nil)
      (pss_cons (ps_asg (pe_op op_add (pe_ix ix_list (pv 0) pe_int (fun _ _ => rfl)) pe_int) (pg_sub (pv 0) pe_int set_list))
      (pss_cons (ps_set (i := 3) sc_law_draw.nd rfl (.inl rfl) (pe_op op_mod (pe_op op_mul (pe_op op_add (pe_op op_add (pe_ix ix_list (pv 0) pe_int (fun _ _ => rfl)) (pe_op op_mul pe_int (pe_ix ix_list (pv 0) pe_int (fun _ _ => rfl)))) pe_int) pe_int) pe_int))
      (pss_cons (ps_set (i := 3) sc_law_draw.nd rfl (.inl rfl) (pe_op op_mod (pe_op op_mul (pv 3) (pe_op op_add (pe_op op_fdiv (pv 3) pe_int) pe_int)) pe_int))
      (pss_one (ps_ret (pe_op op_mod (pe_op op_mod (pe_op op_mul (pv 3) (pe_op op_add (pe_op op_fdiv (pv 3) pe_int) pe_int)) pe_int) (pv 1)))))))), ?_⟩
    refine ⟨.ref W, rfl, W, _, 0, _, rfl, rfl, SqL.of hW, i0, a, 0, rfl, rfl, _, rfl, ite2 (fun e => ?_) (fun e => ?_)⟩
    · refine ⟨.ref W, rfl, W, _, 0, _, rfl, rfl, SqL.of hW, i0, .int m, rfl, a, m, rfl, rfl, m0, ?_⟩
      refine ⟨.ref W, rfl, W, _, 0, _, rfl, rfl, SqL.of hW, i0, .int m, rfl, a, m, rfl, rfl, ⟨m0, m1⟩, .ref W, rfl, W, _, 0, 0, rfl, rfl, hW, rfl, ?_⟩
      exact ⟨_, rfl, q _ _ (mod_lt m0).1 (mod_lt m0).2 ((Wx.refl hI).set _ _ _)⟩
    · refine ⟨.ref W, rfl, W, _, 2, _, rfl, rfl, SqL.of hW, i2, c, 1, rfl, rfl, .ref W, rfl, W, _, 2, 2, rfl, rfl, hW, rfl, ?_⟩
      have hW' : (upd H W (W3 a b (c + 1))) W = some (W3 a b (c + 1)) := upd_same
      have j1 : atI [V.int a, .int b, .int (c + 1)] 1 = some (.int b) := rfl
      have j2 : atI [V.int a, .int b, .int (c + 1)] 2 = some (.int (c + 1)) := rfl
      refine ⟨.ref W, rfl, W, _, 1, _, rfl, rfl, SqL.of hW', j1, .ref W, rfl, W, _, 2, _, rfl, rfl, SqL.of hW', j2, 7919, _, rfl, rfl, .inl (by decide), b, _, rfl, rfl, _, 1, rfl, rfl, _, 48271, rfl, rfl, .inr (by decide), _, 2147483647, rfl, rfl, (show (0 : Int) < 2147483647 by decide), ?_⟩
      refine ⟨_, rfl, _, rfl, _, 1009, rfl, rfl, ⟨by decide, by decide⟩, _, 69621, rfl, rfl, _, _, rfl, rfl, cmul_of (mod_lt (by decide)), _, 2147483647, rfl, rfl, (show (0 : Int) < 2147483647 by decide), ?_⟩
      refine ⟨_, rfl, _, rfl, _, 2003, rfl, rfl, ⟨by decide, by decide⟩, _, 40692, rfl, rfl, _, _, rfl, rfl, cmul_of (mod_lt (by decide)), _, 2147483399, rfl, rfl, (show (0 : Int) < 2147483399 by decide), .int m, rfl, _, m, rfl, rfl, m0, ?_⟩
      exact q _ _ (mod_lt m0).1 (mod_lt m0).2 ((Wx.refl hI).set _ _ _)

theorem ok_Rule_init (T : Txt K mg) : FnOk P w K mg base CX0 1 T.f_Rule_init T.fd_Rule_init ["self", "keep", "worn", "alone", "anew", "own", "common", "never", "strict"] (spRInit T.C_Rule) := by
  refine T.d_Rule_init.F.ok sc_Rule_init (fun vs H Q E h => ?_) (fun cdv A outer s H vs Q E hr h => ?_)
  · obtain ⟨p, dx, r, rfl, _⟩ := h
    rfl
  · obtain ⟨p, dx, r, rfl, hp, k⟩ := h
    refine ⟨_, (pss_cons (ps_fld (pv 0) (pv 1) rfl)
      (pss_cons (ps_fld (pv 0) (pv 2) rfl)
      (pss_cons (ps_fld (pv 0) (pv 3) rfl)
      (pss_cons (ps_fld (pv 0) (pv 4) rfl)
      (pss_cons (ps_fld (pv 0) (pv 5) rfl)
      (pss_cons (ps_fld (pv 0) (pv 6) rfl)
      (pss_cons (ps_fld (pv 0) (pv 7) rfl)
      (pss_one (ps_fld (pv 0) (pv 8) rfl))))))))), ?_⟩
    refine ⟨_, rfl, _, rfl, p, _, dx, [], rfl, hp, T.cl_Rule, T.n_Rule_keep, fewL few0 (by decide), ?_⟩
    refine ⟨_, rfl, _, rfl, p, _, dx, _, rfl, upd_same, T.cl_Rule, T.n_Rule_worn, fewL (few few0) (by decide), ?_⟩
    refine ⟨_, rfl, _, rfl, p, _, dx, _, rfl, upd_same, T.cl_Rule, T.n_Rule_alone, fewL (few (few few0)) (by decide), ?_⟩
    refine ⟨_, rfl, _, rfl, p, _, dx, _, rfl, upd_same, T.cl_Rule, T.n_Rule_anew, fewL (few (few (few few0))) (by decide), ?_⟩
    refine ⟨_, rfl, _, rfl, p, _, dx, _, rfl, upd_same, T.cl_Rule, T.n_Rule_own, fewL (few (few (few (few few0)))) (by decide), ?_⟩
    refine ⟨_, rfl, _, rfl, p, _, dx, _, rfl, upd_same, T.cl_Rule, T.n_Rule_common, fewL (few (few (few (few (few few0))))) (by decide), ?_⟩
    refine ⟨_, rfl, _, rfl, p, _, dx, _, rfl, upd_same, T.cl_Rule, T.n_Rule_never, fewL (few (few (few (few (few (few few0)))))) (by decide), ?_⟩
    refine ⟨_, rfl, _, rfl, p, _, dx, _, rfl, upd_same, T.cl_Rule, T.n_Rule_strict, fewL (few (few (few (few (few (few (few few0))))))) (by decide), ?_⟩
    simp only [upd_upd]
    exact k
theorem ok_Wish_init (T : Txt K mg) : FnOk P w K mg base CX0 1 T.f_Wish_init T.fd_Wish_init ["self", "atmost", "left", "worn", "anew", "kept", "firm"] (spWInit T.C_Wish) := by
  refine T.d_Wish_init.F.ok sc_Wish_init (fun vs H Q E h => ?_) (fun cdv A outer s H vs Q E hr h => ?_)
  · obtain ⟨p, dx, r, rfl, _⟩ := h
    rfl
  · obtain ⟨p, dx, r, rfl, hp, k⟩ := h
    refine ⟨_, (pss_cons (ps_fld (pv 0) (pv 1) rfl)
      (pss_cons (ps_fld (pv 0) (pv 2) rfl)
      (pss_cons (ps_fld (pv 0) (pv 3) rfl)
      (pss_cons (ps_fld (pv 0) (pv 4) rfl)
      (pss_cons (ps_fld (pv 0) (pv 5) rfl)
      (pss_one (ps_fld (pv 0) (pv 6) rfl))))))), ?_⟩
    refine ⟨_, rfl, _, rfl, p, _, dx, [], rfl, hp, T.cl_Wish, T.n_Wish_atmost, fewL few0 (by decide), ?_⟩
    refine ⟨_, rfl, _, rfl, p, _, dx, _, rfl, upd_same, T.cl_Wish, T.n_Wish_left, fewL (few few0) (by decide), ?_⟩
    refine ⟨_, rfl, _, rfl, p, _, dx, _, rfl, upd_same, T.cl_Wish, T.n_Wish_worn, fewL (few (few few0)) (by decide), ?_⟩
    refine ⟨_, rfl, _, rfl, p, _, dx, _, rfl, upd_same, T.cl_Wish, T.n_Wish_anew, fewL (few (few (few few0))) (by decide), ?_⟩
    refine ⟨_, rfl, _, rfl, p, _, dx, _, rfl, upd_same, T.cl_Wish, T.n_Wish_kept, fewL (few (few (few (few few0)))) (by decide), ?_⟩
    refine ⟨_, rfl, _, rfl, p, _, dx, _, rfl, upd_same, T.cl_Wish, T.n_Wish_firm, fewL (few (few (few (few (few few0))))) (by decide), ?_⟩
    simp only [upd_upd]
    exact k

def overM (w : WishR) (age : Int) : Bool := match w.atmost with
  | none => false
  | some m => decide (age > m)
def let7 (r : RuleR) (w : WishR) (age : Int) : Str := if decide (age < r.keep + r.worn) = true then "worn" else "over"
def let6 (r : RuleR) (w : WishR) (age : Int) : Str := if decide (age < r.keep + w.worn) = true then "let" else let7 r w age
def let5 (r : RuleR) (w : WishR) (age : Int) : Str := if (r.strict || w.firm) = true then "firm" else let6 r w age
def let4 (r : RuleR) (w : WishR) (age : Int) : Str := if decide (w.left > 0) = true then "left" else let5 r w age
def let3 (r : RuleR) (w : WishR) (age : Int) : Str := if decide (age + w.left < r.keep) = true then "fresh" else let4 r w age
def let2 (r : RuleR) (w : WishR) (age : Int) : Str := if overM w age = true then "old" else let3 r w age
def letW (r : RuleR) (w : WishR) (age : Int) : Str := if (r.anew || w.anew) = true then "anew" else let2 r w age
def spLets (C D : Addr) : Sp := fun vs H Q _ => ∃ (p q : Addr) (r : RuleR) (w : WishR) (age : Int), vs = [.ref p, .ref q, .int age] ∧ RuleAt C H p r ∧ WishAt D H q w ∧ Q (.str (letW r w age)) H
theorem ok_lets (T : Txt K mg) : FnOk P w K mg base CX0 1 T.f_lets T.fd_lets ["rule", "wish", "age"] (spLets T.C_Rule T.C_Wish) := by
  refine T.d_lets.F.ok sc_lets (fun vs H Q E h => ?_) (fun cdv A outer s H vs Q E hr h => ?_)
  · obtain ⟨p, q, r, w, age, rfl, _⟩ := h
    rfl
  · obtain ⟨p, q, r, w, age, rfl, ⟨dx, hp⟩, ⟨dy, hq⟩, k⟩ := h
    refine ⟨_, (pss_cons (ps_if (pt_pure (PW.pt (pw_or (pt_val (pe_fld (pv 0) rfl)) (pw_or1 (pt_val (pe_fld (pv 1) rfl))))))
      (pss_one (ps_ret pe_str))
      pss_nil)
      (pss_cons (ps_if (pt_pure (PW.pt (pw_and (pt_cmpR op_notN (pe_fld (pv 1) rfl) pe_non (nomark _)) (pw_and1 (pt_cmpR op_gt (pv 2) (pe_fld (pv 1) rfl) (nomark _))))))
      (pss_one (ps_ret pe_str))
      pss_nil)
      (pss_cons (ps_if (pt_cmpR op_lt (pe_op op_add (pv 2) (pe_fld (pv 1) rfl)) (pe_fld (pv 0) rfl) (nomark _))
      (pss_one (ps_ret pe_str))
      pss_nil)
      (pss_cons (ps_if (pt_cmpR op_gt (pe_fld (pv 1) rfl) pe_int (nomark _))
      (pss_one (ps_ret pe_str))
      pss_nil)
      (pss_cons (ps_if (pt_pure (PW.pt (pw_or (pt_val (pe_fld (pv 0) rfl)) (pw_or1 (pt_val (pe_fld (pv 1) rfl))))))
      (pss_one (ps_ret pe_str))
      pss_nil)
      (pss_cons (ps_if (pt_cmpR op_lt (pv 2) (pe_op op_add (pe_fld (pv 0) rfl) (pe_fld (pv 1) rfl)) (nomark _))
      (pss_one (ps_ret pe_str))
      pss_nil)
      (pss_cons (ps_if (pt_cmpR op_lt (pv 2) (pe_op op_add (pe_fld (pv 0) rfl) (pe_fld (pv 0) rfl)) (nomark _))
      (pss_one (ps_ret pe_str))
      pss_nil)
      (pss_one (ps_ret pe_str))))))))), ?_⟩
    unfold letW at k
    refine ⟨(r.anew || w.anew), ?_, ite2 (fun e => ?_) (fun e => ?_)⟩
    · refine ⟨_, rfl, p, _, dx, _, _, rfl, hp, T.cl_Rule, T.n_Rule_anew, fR_anew r, _, rfl, ite2 (fun e => ?_) (fun e => ?_)⟩
      · rw [e]
        exact ⟨rfl, rfl⟩
      · exact ⟨_, rfl, q, _, dy, _, _, rfl, hq, T.cl_Wish, T.n_Wish_anew, fW_anew w, _, rfl, by rw [show r.anew = false by simpa using e]; rfl, rfl⟩
    · rw [if_pos e] at k
      exact k
    rw [if_neg e] at k
    unfold let2 at k
    refine ⟨overM w age, ?_, ite2 (fun e => ?_) (fun e => ?_)⟩
    · unfold overM
      refine ⟨_, rfl, q, _, dy, _, _, rfl, hq, T.cl_Wish, T.n_Wish_atmost, fW_atmost w, rfl, ?_⟩
      cases hm : w.atmost with
      | none => exact ⟨false, rfl, rfl, rfl⟩
      | some m => exact ⟨true, rfl, _, rfl, _, rfl, q, _, dy, _, _, rfl, hq, T.cl_Wish, T.n_Wish_atmost, by rw [fW_atmost w, hm]; rfl, _, m, rfl, rfl, _, rfl, rfl, rfl⟩
    · rw [if_pos e] at k
      exact k
    rw [if_neg e] at k
    unfold let3 at k
    refine ⟨_, rfl, _, rfl, q, _, dy, _, _, rfl, hq, T.cl_Wish, T.n_Wish_left, fW_left w, age, w.left, rfl, rfl, _, rfl, p, _, dx, _, _, rfl, hp, T.cl_Rule, T.n_Rule_keep, fR_keep r, _, _, rfl, rfl, _, rfl, ite2 (fun e => ?_) (fun e => ?_)⟩
    · rw [if_pos e] at k
      exact k
    rw [if_neg e] at k
    unfold let4 at k
    refine ⟨_, rfl, q, _, dy, _, _, rfl, hq, T.cl_Wish, T.n_Wish_left, fW_left w, _, _, rfl, rfl, _, rfl, ite2 (fun e => ?_) (fun e => ?_)⟩
    · rw [if_pos e] at k
      exact k
    rw [if_neg e] at k
    unfold let5 at k
    refine ⟨(r.strict || w.firm), ?_, ite2 (fun e => ?_) (fun e => ?_)⟩
    · refine ⟨_, rfl, p, _, dx, _, _, rfl, hp, T.cl_Rule, T.n_Rule_strict, fR_strict r, _, rfl, ite2 (fun e => ?_) (fun e => ?_)⟩
      · rw [e]
        exact ⟨rfl, rfl⟩
      · exact ⟨_, rfl, q, _, dy, _, _, rfl, hq, T.cl_Wish, T.n_Wish_firm, fW_firm w, _, rfl, by rw [show r.strict = false by simpa using e]; rfl, rfl⟩
    · rw [if_pos e] at k
      exact k
    rw [if_neg e] at k
    unfold let6 at k
    refine ⟨_, rfl, _, rfl, p, _, dx, _, _, rfl, hp, T.cl_Rule, T.n_Rule_keep, fR_keep r, _, rfl, q, _, dy, _, _, rfl, hq, T.cl_Wish, T.n_Wish_worn, fW_worn w, _, _, rfl, rfl, _, _, rfl, rfl, _, rfl, ite2 (fun e => ?_) (fun e => ?_)⟩
    · rw [if_pos e] at k
      exact k
    rw [if_neg e] at k
    unfold let7 at k
    refine ⟨_, rfl, _, rfl, p, _, dx, _, _, rfl, hp, T.cl_Rule, T.n_Rule_keep, fR_keep r, _, rfl, p, _, dx, _, _, rfl, hp, T.cl_Rule, T.n_Rule_worn, fR_worn r, _, _, rfl, rfl, _, _, rfl, rfl, _, rfl, ite2 (fun e => ?_) (fun e => ?_)⟩
    · rw [if_pos e] at k
      exact k
    · rw [if_neg e] at k
      exact k

end
end My
namespace My
open PySem PySem.Spec PyProof.Rows L2 TL
section
variable {P : Program} {w : World} {K : PySem.W.Frag} {mg : Str → Option Value} {base : Heap}
theorem ok_is_name (T : Txt K mg) : FnOk P w K mg base CX0 2 T.f_is_name T.fd_is_name ["text"] (spIs nameB) := by
  refine T.d_is_name.F.ok sc_is_name (fun vs H Q E h => ?_) (fun cdv A outer s H vs Q E hr h => ?_)
  · obtain ⟨v, rfl, _⟩ := h
    rfl
  · obtain ⟨v, rfl, th, q⟩ := h
    refine ⟨_, (pss_one (ps_ret (pe_call (ok_is_made_of T) (hr.mono (by decide)) (by rfl) T.d_is_made_of.g T.d_is_made_of.F.kp T.d_is_made_of.b .nil pass0 (pa_cons (pv 0) (pa_cons (pe_glob (v := .str "abcdefghijklmnopqrstuvwxyz") (by rfl) T.g_LETTERS ⟨_, rfl⟩) (pa_cons pe_int (pa_cons (pe_glob (v := .int 8) (by rfl) T.g_LONGEST_NAME ⟨_, rfl⟩) pa_nil))))))), ?_⟩
    exact ⟨v, rfl, v, _, _, _, rfl, th, fun H1 sm => q H1 sm⟩
def spWordTold : Sp := fun vs H Q _ => ∃ z : Str, vs = [.str z] ∧ z.length ≤ 20000 ∧ ∀ v H', Same H H' → PWd H' v (wordT z) → Q v H'
theorem par_len (S : List Nat) : ∀ (xs acc a b : List Nat), par S acc xs = some (a, b) → a.length ≤ acc.length + xs.length ∧ b.length ≤ xs.length
  | [], acc, a, b, h => by cases h
  | c :: r, acc, a, b, h => by
    unfold par at h
    by_cases hp : pre S (c :: r) = true
    · rw [if_pos hp] at h
      cases h
      rw [List.length_drop]
      omega
    · rw [if_neg hp] at h
      have := par_len S r _ a b h
      rw [List.length_append] at this
      rw [List.length_cons]
      simp only [List.length_cons, List.length_nil] at this
      omega
theorem part_len (z y : Str) (hy : tl y ≠ []) : (Txt.partition z y).1.length ≤ z.length ∧ (Txt.partition z y).2.2.length ≤ z.length := by
  rw [partition_par z y hy]
  have e2 : (tl z).length = z.length := My.len_tl z
  cases h : par (tl y) [] (tl z) with
  | none => exact ⟨Nat.le_refl _, Nat.zero_le _⟩
  | some ab =>
    obtain ⟨a, b⟩ := ab
    obtain ⟨u1, u2⟩ := par_len _ _ _ _ _ h
    have u1' : a.length ≤ 0 + (tl z).length := u1
    have u2' : b.length ≤ (tl z).length := u2
    rw [e2] at u1' u2'
    exact ⟨Nat.le_trans (Nat.le_of_eq (mk_len a)) (by omega), Nat.le_trans (Nat.le_of_eq (mk_len b)) (by omega)⟩
theorem ok_word_told (T : Txt K mg) : FnOk P w K mg base CX0 3 T.f_word_told T.fd_word_told ["piece"] spWordTold := by
  refine T.d_word_told.F.ok sc_word_told (fun vs H Q E h => ?_) (fun cdv A outer s H vs Q E hr h => ?_)
  · obtain ⟨z, rfl, _⟩ := h
    rfl
  · obtain ⟨z, rfl, hz, q⟩ := h
    refine ⟨_, (pss_cons (ps_asg (pe_partition (pv 0) pe_str) (pg_tup rfl (pgs_cons (pg_name (i := 1) sc_word_told.nd rfl (.inl rfl)) (pgs_cons (pg_name (i := 2) sc_word_told.nd rfl (.inl rfl)) (pgs_cons (pg_name (i := 3) sc_word_told.nd rfl (.inl rfl)) pgs_nil)))))
      (pss_cons (ps_if (pt_not (pt_val (pe_call (ok_is_name T) (hr.mono (by decide)) (by rfl) T.d_is_name.g T.d_is_name.F.kp T.d_is_name.b .nil pass0 (pa_cons (pv 1) pa_nil))))
      (pss_one (ps_ret pe_non))
      pss_nil)
      (pss_cons (ps_if (pt_cmpR op_eq (pv 2) pe_str (nomark _))
      (pss_one (ps_ret (pe_tup (pa_cons (pv 1) (pa_cons pe_non pa_nil)))))
      pss_nil)
      (pss_cons (ps_if (pt_not (pt_val (pe_call (ok_is_figures T) (hr.mono (by decide)) (by rfl) T.d_is_figures.g T.d_is_figures.F.kp T.d_is_figures.b .nil pass0 (pa_cons (pv 3) pa_nil))))
      (pss_one (ps_ret pe_non))
      pss_nil)
      (pss_one (ps_ret (pe_tup (pa_cons (pv 1) (pa_cons (pe_callTy call_int_str (by rfl) T.m_int (by decide +kernel) (pa_cons (pv 3) pa_nil)) pa_nil))))))))), ?_⟩
    have hpl := part_len z " " (by decide)
    refine ⟨.str z, rfl, ⟨z, rfl⟩, z, _, rfl, rfl, by decide, szl (by omega), fun p hp => ?_⟩
    unfold wordT at q
    generalize Txt.partition z " " = pp at *
    obtain ⟨nm, bl, fg⟩ := pp
    dsimp only at q hpl ⊢
    have s0 := same_upd (o := .tup [.str nm, .str bl, .str fg]) hp
    refine ⟨p, _, rfl, SqT.of upd_same, rfl, _, _, rfl, _, _, rfl, _, _, rfl, rfl, ?_⟩
    refine ⟨_, rfl, .str nm, rfl, .str nm (by omega), fun H1 s1 => ⟨_, rfl, ?_⟩⟩
    show if (!nameB nm) = true then _ else _
    have t1 := s0.trans s1
    refine ite2 (fun e => ?_) (fun e => ?_)
    · rw [if_neg (show ¬ nameB nm = true by rw [show nameB nm = false by simpa using e]; exact Bool.false_ne_true)] at q
      exact q .non H1 t1 rfl
    rw [if_pos (show nameB nm = true by simpa using e)] at q
    refine ⟨_, rfl, rfl, _, rfl, ite2 (fun e2 => ?_) (fun e2 => ?_)⟩
    · rw [if_pos (of_decide_eq_true e2)] at q
      refine ⟨_, rfl, (by show 2 ≤ sizeLine; decide), fun t ht => ?_⟩
      exact q (.ref t) _ (t1.trans (same_upd ht)) ⟨t, rfl, upd_same⟩
    rw [if_neg (fun x => e2 (decide_eq_true x))] at q
    refine ⟨_, rfl, .str fg, rfl, .str fg (by omega), fun H2 s2 => ⟨_, rfl, ?_⟩⟩
    show if (!figB fg) = true then _ else _
    have t2 := t1.trans s2
    refine ite2 (fun e3 => ?_) (fun e3 => ?_)
    · rw [if_neg (show ¬ figB fg = true by rw [show figB fg = false by simpa using e3]; exact Bool.false_ne_true)] at q
      exact q .non H2 t2 rfl
    have hf : figB fg = true := by simpa using e3
    rw [if_pos hf] at q
    obtain ⟨n, hn, ln⟩ := fig_int hf
    rw [hn] at q
    refine ⟨_, rfl, .str fg, rfl, fg, n, rfl, hn, by omega, (by show 2 ≤ sizeLine; decide), fun t ht => ?_⟩
    exact q (.ref t) _ (t2.trans (same_upd ht)) ⟨t, rfl, upd_same⟩
def rStripC : V → List V → Hp → VK → Prop := fun x xs H Q => ∃ a b, x = .str a ∧ xs = [.str b] ∧ a.length ≤ sizeLine ∧ Q (.str (Txt.stripChars a b)) H
def spWords : Sp := fun vs H Q _ => ∃ z : Str, vs = [.str z] ∧ z.length ≤ 20000 ∧ ∀ p xs H', H p = none → Same H H' → H' p = some (.lst xs) → Paired (PWd H') xs (wordsT z) → xs.length ≤ 20002 → Q (.ref p) H'
theorem stripBy_len (g : Nat → Bool) (l r : Bool) (x : Str) : (Txt.stripBy g l r x).length ≤ x.length := by
  unfold Txt.stripBy
  split
  · exact Nat.le_refl _
  · unfold stripped PySem.Builtin.Str.strSub
    show (Array.extract _ _ _).size ≤ x.cps.size
    rw [Array.size_extract]
    omega
theorem spl_len (S : List Nat) : ∀ (L : List Nat) (k : Nat) (acc : List Nat), (spl S k acc L).length ≤ L.length + 1 ∧ ∀ p ∈ spl S k acc L, p.length ≤ acc.length + L.length
  | [], k, acc => by
    rw [spl_nil]
    refine ⟨Nat.le_refl _, fun p hp => ?_⟩
    rw [List.mem_singleton.mp hp]
    exact Nat.le_add_right _ _
  | c :: r, 0, acc => by
    cases h : pre S (c :: r) with
    | true =>
      rw [spl_hit h]
      obtain ⟨h1, h2⟩ := spl_len S r (S.length - 1) []
      refine ⟨by rw [List.length_cons, List.length_cons]; omega, fun p hp => ?_⟩
      rcases List.mem_cons.mp hp with rfl | hp
      · exact Nat.le_add_right _ _
      · have := h2 p hp
        rw [List.length_nil] at this
        rw [List.length_cons]
        omega
    | false =>
      rw [spl_miss h]
      obtain ⟨h1, h2⟩ := spl_len S r 0 (acc ++ [c])
      refine ⟨by rw [List.length_cons]; omega, fun p hp => ?_⟩
      have := h2 p hp
      rw [List.length_append, List.length_singleton] at this
      rw [List.length_cons]
      omega
  | c :: r, k + 1, acc => by
    obtain ⟨h1, h2⟩ := spl_len S r k acc
    show (spl S k acc r).length ≤ _ ∧ ∀ p ∈ spl S k acc r, _
    refine ⟨by rw [List.length_cons]; omega, fun p hp => ?_⟩
    have := h2 p hp
    rw [List.length_cons]
    omega
theorem split_len (z : Str) : (Txt.split z ",").length ≤ z.length + 1 ∧ ∀ p ∈ Txt.split z ",", p.length ≤ z.length := by
  have e := split_spl z "," (by decide) (kind_ok (by decide +kernel))
  obtain ⟨h1, h2⟩ := spl_len (tl ",") (tl z) 0 []
  have ez : (tl z).length = z.length := My.len_tl z
  rw [← e, List.length_map, ez] at h1
  refine ⟨h1, fun p hp => ?_⟩
  have := h2 (tl p) (by rw [← e]; exact List.mem_map.mpr ⟨p, hp, rfl⟩)
  rw [ez, List.length_nil] at this
  have ep : (tl p).length = p.length := My.len_tl p
  omega
theorem ok_words_told (T : Txt K mg) : FnOk P w K mg base CX0 4 T.f_words_told T.fd_words_told ["text"] spWords := by
  refine T.d_words_told.F.ok sc_words_told (fun vs H Q E h => ?_) (fun cdv A outer s H vs Q E hr h => ?_)
  · obtain ⟨z, rfl, _⟩ := h
    rfl
  · obtain ⟨z, rfl, hz, q⟩ := h
    refine ⟨_, (pss_cons (ps_if (pt_cmpR op_eq (pe_bm PySem.F.plainAttrs_str PySem.F.slot_str_strip PySem.F.type_str_strip mt_stripChars (pv 0) (pa_cons pe_str pa_nil)) pe_str (nomark _))
      (pss_one (ps_ret (pe_lst pa_nil)))
      pss_nil)
      (pss_one (ps_ret (pe_lc (own := [("piece", 1)]) (g := gName 1) (tt := tYes) (te := tCall spWordTold [] E0 (tCons (tBM K "str" rStripC (tVar 1) (tCons (tC (.str " ")) tNil)) tNil)) (by rfl) sc_words_told.nd (pi_list (pe_split (pv 0) pe_str)) (blkOk_by (own := [("piece", 1)]) (N := ["text", "piece"]) (sc := defScope s_words_told) (by decide +kernel)) (fun _ _ _ _ _ => (pg_name (i := 1) sc_words_told.nd rfl (Or.inl rfl))) (fun _ _ _ _ _ => pts_nil) (fun _ _ _ _ _ => (pe_call (ok_word_told T) (hr.mono (by decide)) (by rfl) T.d_word_told.g T.d_word_told.F.kp T.d_word_told.b .nil pass0 (pa_cons (pe_bm PySem.F.plainAttrs_str PySem.F.slot_str_strip PySem.F.type_str_strip mt_stripChars (pv 1) (pa_cons pe_str pa_nil)) pa_nil))))))), ?_⟩
    unfold wordsT at q
    refine ⟨.str z, rfl, rfl, z, _, rfl, rfl, szl (by omega), rfl, _, rfl, ite2 (fun e => ?_) (fun e => ?_)⟩
    · rw [if_pos (of_decide_eq_true e)] at q
      exact ⟨Nat.zero_le _, fun p hp => q p [] _ hp (same_upd hp) upd_same .nil (Nat.zero_le _)⟩
    rw [if_neg (fun x => e (decide_eq_true x))] at q
    refine ⟨.str z, rfl, ⟨z, rfl⟩, z, _, rfl, rfl, by decide, Nat.le_trans (show z.length + 2 ≤ 20002 by omega) (by decide), fun p hp => ?_⟩
    obtain ⟨hl, hpl⟩ : (Txt.split z ",").length ≤ z.length + 1 ∧ ∀ p ∈ Txt.split z ",", p.length ≤ z.length := split_len z
    have s0 := same_upd (o := .lst ((Txt.split z ",").map V.str)) hp
    refine ⟨p, rfl, ⟨_, SqL.of upd_same⟩, fun D hD => ?_⟩
    refine lc_list (K := K) (a := p) (xs := (Txt.split z ",").map V.str) (fun i H' => Same (upd H p (.lst ((Txt.split z ",").map V.str))) H' ∧ ∃ xs, H' D = some (.lst xs) ∧ Paired (PWd H') xs (((Txt.split z ",").take i).map fun p => wordT (Txt.stripChars p " ")) ∧ xs.length = i) ⟨same_upd hD, [], upd_same, .nil, rfl⟩ (fun i H' _ pv => SqL.of (pv.1 _ _ upd_same)) ?_ ?_
    · rintro i x H1 hi ⟨s1, xs, eD, hx, lx⟩
      obtain ⟨y, rfl, hy, my⟩ := str_at hi
      have hil : i < (Txt.split z ",").length := (List.getElem?_eq_some_iff.mp hy).1
      have ly := hpl y my
      have lys : (Txt.stripChars y " ").length ≤ y.length := stripBy_len _ _ _ y
      refine ⟨rfl, .str y, rfl, rfl, y, _, rfl, rfl, szl (by omega), Txt.stripChars y " ", rfl, by omega, fun v H2 s2 pv => ?_⟩
      refine ⟨xs, s2 _ _ eD, szlt (by omega), same_mut (s1.trans s2) hD, xs ++ [v], upd_same, ?_, by rw [List.length_append, lx]; rfl⟩
      rw [take_map _ hy]
      exact pwd_upd (s2 _ _ eD) (paired_app (pwd_mono s2 hx) (.cons pv .nil))
    · rintro H1 ⟨s1, xs, eD, hx, lx⟩
      rw [List.length_map] at lx
      rw [List.length_map, List.take_length] at hx
      exact q D xs H1 (s0.free hD) (s0.trans s1) eD hx (by omega)

end
end My
namespace My
open PySem PySem.Spec PyProof.Rows L2 TL
section
variable {P : Program} {w : World} {K : PySem.W.Frag} {mg : Str → Option Value} {base : Heap}
def isN : Option Int → Bool
  | none => true
  | some _ => false
theorem oV_non (x : Option Int) : decide (oV x = V.non) = x.isNone := by
  cases x with
  | none => rfl
  | some n => exact decide_eq_false (fun z => by cases z)
theorem someNone (x : Option Int) : (!x.isNone) = x.isSome := by cases x <;> rfl
def spSuits (K : PySem.W.Frag) : Sp := fun vs H Q _ => ∃ (t b c : Addr) (d : Wd) (ns ts : List Str), vs = [.ref t, .ref b, .ref c] ∧ H t = some (.tup [.str d.1, oV d.2]) ∧ SqT K H b (ns.map V.str) ∧ SqT K H c (ts.map V.str) ∧ Q (.bl (suitB ns ts d)) H
theorem ok_suits_its_name (T : Txt K mg) : FnOk P w K mg base CX0 1 T.f_suits_its_name T.fd_suits_its_name ["word", "numbers", "truths"] (spSuits K) := by
  refine T.d_suits_its_name.F.ok sc_suits_its_name (fun vs H Q E h => ?_) (fun cdv A outer s H vs Q E hr h => ?_)
  · obtain ⟨t, b, c, d, ns, ts, rfl, _⟩ := h
    rfl
  · obtain ⟨t, b, c, d, ns, ts, rfl, ht, hb, hc, q⟩ := h
    refine ⟨_, (pss_cons (ps_asg (pv 0) (pg_tup rfl (pgs_cons (pg_name (i := 3) sc_suits_its_name.nd rfl (.inl rfl)) (pgs_cons (pg_name (i := 4) sc_suits_its_name.nd rfl (.inl rfl)) pgs_nil))))
      (pss_cons (ps_if (pt_cmpR op_in_seq (pv 3) (pv 1) rfl)
      (pss_one (ps_ret (pe_cmpR op_notN (pv 4) pe_non (nomark _))))
      pss_nil)
      (pss_one (ps_ret (pe_pure (pe_or (pe_cmpR op_notIn_seq (pv 3) (pv 2) rfl) (pe_one (pe_cmpR op_isN (pv 4) pe_non (nomark _))))))))), ?_⟩
    refine ⟨.ref t, rfl, t, _, rfl, SqT.of ht, rfl, _, _, rfl, _, _, rfl, rfl, ?_⟩
    unfold suitB at q
    refine ⟨_, rfl, _, rfl, b, _, rfl, .inr hb, rfl, flat_strs ns, decide (d.1 ∈ ns), ?_, ite2 (fun e => ?_) (fun e => ?_)⟩
    · show V.bl (if false = true then _ else inV _ _) = _
      rw [if_neg Bool.false_ne_true, inV_strs]
    · rw [if_pos e] at q
      refine ⟨_, rfl, rfl, ?_⟩
      rw [oV_non, someNone]
      exact q
    · rw [if_neg e] at q
      refine ⟨.bl (!decide (d.1 ∈ ts) || d.2.isNone), ?_, q⟩
      refine ⟨_, rfl, _, rfl, c, _, rfl, .inr hc, rfl, flat_strs ts, !decide (d.1 ∈ ts), ?_, ite2 (fun e2 => ?_) (fun e2 => ?_)⟩
      · show V.bl (if true = true then !inV _ _ else _) = _
        rw [if_pos rfl, inV_strs]
      · rw [e2]
        exact ⟨rfl, rfl⟩
      · refine ⟨_, rfl, rfl, ?_, rfl⟩
        rw [oV_non, show (!decide (d.1 ∈ ts)) = false by simpa using e2]
        rfl
def spFW (K : PySem.W.Frag) : Sp := fun vs H Q _ => ∃ (a b c : Addr) (xs : List V) (ws : List (Option Wd)) (ns ts : List Str), vs = [.ref a, .ref b, .ref c] ∧ H a = some (.lst xs) ∧ Paired (PWd H) xs ws ∧ (∀ H, SqT K H b (ns.map V.str)) ∧ (∀ H, SqT K H c (ts.map V.str)) ∧
  ∀ H', Same H H' → Q (match wrongAt ns ts ws with | none => .non | some k => .int (k : Nat)) H'
theorem wrong_first {ns ts : List Str} {ws : List (Option Wd)} {i : Nat} {w : Option Wd} (h : ∀ j u, j < i → ws[j]? = some u → badB ns ts u = false) (hi : ws[i]? = some w) (hw : badB ns ts w = true) : wrongAt ns ts ws = some i := by
  unfold wrongAt
  rw [List.findIdx?_eq_some_iff_getElem]
  have hl := (List.getElem?_eq_some_iff.mp hi).1
  refine ⟨hl, ?_, fun j hj => ?_⟩
  · rw [show ws[i] = w from (List.getElem?_eq_some_iff.mp hi).2]
    exact hw
  · have := h j ws[j] hj (List.getElem?_eq_getElem (Nat.lt_trans hj hl))
    rw [this]
    exact Bool.false_ne_true
theorem wrong_none {ns ts : List Str} {ws : List (Option Wd)} (h : ∀ j u, j < ws.length → ws[j]? = some u → badB ns ts u = false) : wrongAt ns ts ws = none := by
  unfold wrongAt
  rw [List.findIdx?_eq_none_iff]
  intro x hx
  obtain ⟨j, hj⟩ := List.mem_iff_getElem?.mp hx
  exact h j x (List.getElem?_eq_some_iff.mp hj).1 hj
theorem ok_first_wrong (T : Txt K mg) : FnOk P w K mg base CX0 2 T.f_first_wrong T.fd_first_wrong ["words", "numbers", "truths"] (spFW K) := by
  refine T.d_first_wrong.F.ok sc_first_wrong (fun vs H Q E h => ?_) (fun cdv A outer s H vs Q E hr h => ?_)
  · obtain ⟨a, b, c, xs, ws, ns, ts, rfl, _⟩ := h
    rfl
  · obtain ⟨a, b, c, xs, ws, ns, ts, rfl, ha, hx, hb, hc, q⟩ := h
    refine ⟨_, (pss_cons (ps_for PassesOwn.never rfl (pi_enum (by rfl) T.m_enumerate (pa_cons (pv 0) pa_nil)) (pg_tup rfl (pgs_cons (pg_name (i := 3) sc_first_wrong.nd rfl (.inl rfl)) (pgs_cons (pg_name (i := 4) sc_first_wrong.nd rfl (.inl rfl)) pgs_nil)))
      (pss_one (ps_if (pt_mid (PW.pt (pw_or (pt_cmpR op_isN (pv 4) pe_non (nomark _)) (pw_or1 (pt_not (pt_val (pe_call (ok_suits_its_name T) (hr.mono (by decide)) (by rfl) T.d_suits_its_name.g T.d_suits_its_name.F.kp T.d_suits_its_name.b .nil pass0 (pa_cons (pv 4) (pa_cons (pv 1) (pa_cons (pv 2) pa_nil))))))))))
      (pss_one (ps_ret (pv 3)))
      pss_nil)))
      (pss_one (ps_ret pe_non))), ?_⟩
    have lx : xs.length = ws.length := Paired.length hx
    refine ⟨.ref a, rfl, a, xs, rfl, SqL.of ha, for_it (walk_enum (K := K) (a := a) (xs := xs)) (fun i σ H' => Same H H' ∧ (∀ j u, j < i → ws[j]? = some u → badB ns ts u = false) ∧ ∃ y3 y4, σ = [some (.ref a), some (.ref b), some (.ref c), y3, y4]) ⟨Same.refl _, fun j u hj => absurd hj (Nat.not_lt_zero j), none, none, rfl⟩ (fun i σ H' _ pv => SqL.of (pv.1 _ _ ha)) ?_ ?_⟩
    · rintro i x σ H1 H2 hi ⟨s1, hj, y3, y4, rfl⟩ ⟨Tt, x', y, rfl, hT, rfl, e1, e2⟩
      cases e1
      obtain ⟨w, hw, pw⟩ := paired_at hx e2
      have s2 := same_upd (o := .tup [.int (i : Nat), y]) hT
      have t2 := s1.trans s2
      have pw2 := pw.mono t2
      refine ⟨Tt, _, rfl, SqT.of upd_same, rfl, _, _, rfl, _, _, rfl, rfl, ?_⟩
      refine ⟨fun bb H' => bb = badB ns ts w ∧ H' = upd H1 Tt (.tup [.int (i : Nat), y]), ?_, fun bb H' hb' => ?_⟩
      · cases w with
        | none =>
          cases pw2
          exact ⟨_, rfl, rfl, true, rfl, rfl, rfl⟩
        | some d =>
          obtain ⟨t, rfl, ht⟩ := pw2
          exact ⟨_, rfl, rfl, false, rfl, _, rfl, _, rfl, _, rfl, t, b, c, d, ns, ts, rfl, ht, hb _, hc _, _, rfl, rfl, rfl⟩
      · obtain ⟨rfl, rfl⟩ := hb'
        refine ite2 (fun e => ?_) (fun e => ?_)
        · have := q _ t2
          rw [wrong_first hj hw e] at this
          exact ⟨_, rfl, this⟩
        · refine ⟨t2, fun j u hjl hu => ?_, _, _, rfl⟩
          by_cases z : j = i
          · rw [z, hw] at hu
            cases hu
            simpa using e
          · exact hj j u (by omega) hu
    · rintro σ H1 ⟨s1, hj, y3, y4, rfl⟩
      have := q H1 s1
      rw [wrong_none fun j u h1 h2 => hj j u (by omega) h2] at this
      exact this
def spNums : Sp := fun vs H Q _ => ∃ (a : Addr) (name : Str) (xs : List V) (ds : List Wd), vs = [.ref a, .str name] ∧ H a = some (.lst xs) ∧ Paired (PWd H) xs (ds.map some) ∧ ds.length ≤ 90000 ∧ ∀ p H', Same H H' → H' p = some (.lst ((numsT name ds).map oV)) → Q (.ref p) H'
theorem ok_numbers_told (T : Txt K mg) : FnOk P w K mg base CX0 1 T.f_numbers_told T.fd_numbers_told ["words", "name"] spNums := by
  refine T.d_numbers_told.F.ok sc_numbers_told (fun vs H Q E h => ?_) (fun cdv A outer s H vs Q E hr h => ?_)
  · obtain ⟨a, name, xs, ds, rfl, _⟩ := h
    rfl
  · obtain ⟨a, name, xs, ds, rfl, ha, hx, ld, q⟩ := h
    refine ⟨_, (pss_one (ps_ret (pe_lc (own := [("named", 2), ("number", 3)]) (g := gTup K 2 (gCons (gName 2) (gCons (gName 3) gNil))) (by rfl) sc_numbers_told.nd (pi_list (pv 0)) (blkOk_by (own := [("named", 2), ("number", 3)]) (N := ["words", "name", "named", "number"]) (sc := defScope s_numbers_told) (by decide +kernel)) (fun _ _ _ _ _ => (pg_tup rfl (pgs_cons (pg_name (i := 2) sc_numbers_told.nd rfl (Or.inl rfl)) (pgs_cons (pg_name (i := 3) sc_numbers_told.nd rfl (Or.inl rfl)) pgs_nil)))) (fun _ _ _ _ _ => (pts_one (pt_cmpR op_eq (pv 2) (pv 1) (nomark _)))) (fun _ _ _ _ _ => (pv 3))))), ?_⟩
    have lx : xs.length = ds.length := (Paired.length hx).trans (List.length_map ..)
    refine ⟨.ref a, rfl, a, rfl, ⟨_, SqL.of ha⟩, fun D hD => ?_⟩
    refine lc_list (K := K) (a := a) (xs := xs) (fun i H' => Same H H' ∧ H' D = some (.lst ((numsT name (ds.take i)).map oV))) ⟨same_upd hD, upd_same⟩ (fun i H' _ pv => SqL.of (pv.1 _ _ ha)) ?_ ?_
    · rintro i x H1 hi ⟨s1, eD⟩
      obtain ⟨w, hw, pw⟩ := paired_at hx hi
      rw [List.getElem?_map] at hw
      cases hk : ds[i]? with
      | none =>
        rw [hk] at hw
        cases hw
      | some d =>
        rw [hk] at hw
        cases hw
        obtain ⟨t, rfl, ht⟩ := pw.mono s1
        have hil : i < ds.length := (List.getElem?_eq_some_iff.mp hk).1
        have hf := filter_take (fun d : Wd => decide (d.1 = name)) (fun d => oV d.2) hk
        have e0 : ∀ l : List Wd, (numsT name l).map oV = (l.filter fun d => decide (d.1 = name)).map fun d => oV d.2 := fun l => by
          unfold numsT
          rw [List.map_map]
          rfl
        have hln : ((numsT name (ds.take i)).map oV).length ≤ i := by
          rw [e0, List.length_map]
          exact Nat.le_trans (List.length_filter_le ..) (by rw [List.length_take]; omega)
        refine ⟨t, _, rfl, SqT.of ht, rfl, _, _, rfl, _, _, rfl, rfl, rfl, _, rfl, _, rfl, rfl, _, rfl, ite2 (fun e => ?_) (fun e => ?_)⟩
        · have e' : d.1 = name := V.str.inj (of_decide_eq_true e)
          refine ⟨_, rfl, _, eD, szlt (by omega), same_mut s1 hD, ?_⟩
          rw [upd_same, e0, e0, hf, if_pos (decide_eq_true e')]
        · have e' : ¬ d.1 = name := fun z => e (decide_eq_true (congrArg V.str z))
          refine ⟨s1, ?_⟩
          rw [eD, e0, e0, hf, if_neg (fun z => e' (of_decide_eq_true z)), List.append_nil]
    · rintro H1 ⟨s1, eD⟩
      rw [lx, List.take_length] at eD
      exact q D H1 s1 eD
def spTold : Sp := fun vs H Q _ => ∃ (a : Addr) (name : Str) (xs : List V) (ds : List Wd), vs = [.ref a, .str name] ∧ H a = some (.lst xs) ∧ Paired (PWd H) xs (ds.map some) ∧ (∀ d ∈ ds, Asc d.1) ∧ Asc name ∧ ∀ H', Same H H' → Q (.bl (toldT name ds)) H'
theorem ok_is_told (T : Txt K mg) : FnOk P w K mg base CX0 1 T.f_is_told T.fd_is_told ["words", "name"] spTold := by
  refine T.d_is_told.F.ok sc_is_told (fun vs H Q E h => ?_) (fun cdv A outer s H vs Q E hr h => ?_)
  · obtain ⟨a, name, xs, ds, rfl, _⟩ := h
    rfl
  · obtain ⟨a, name, xs, ds, rfl, ha, hx, hA, hn, q⟩ := h
    refine ⟨_, (pss_one (ps_ret (pe_cmpR (op_inD (u65 hr)) (pe_tup (pa_cons (pv 1) (pa_cons pe_non pa_nil))) (pv 0) rfl))), ?_⟩
    refine ⟨_, rfl, (by show 2 ≤ sizeLine; decide), fun t ht => ?_⟩
    have s1 := same_upd (o := .tup [.str name, .non]) ht
    refine ⟨.ref a, rfl, .tuple [.str name, .none], ds.map wdD, .tup (SqT.of upd_same) (.cons (.str _) (.cons .non .nil)), .lst (SqL.of (s1 _ _ ha)) (dp_wds (pwd_mono s1 hx)), ?_, shaped_wds hA, ?_⟩
    · simp [SeqAt.shaped, PyData.canLay0, PyData.canLayAll0, PyData.depth, PyData.depthAll, ok_asc hn]
    · rw [any_wds]
      exact q _ s1

end
end My
namespace My
open PySem PySem.Spec PyProof.Rows L2 TL
section
variable {P : Program} {w : World} {K : PySem.W.Frag} {mg : Str → Option Value} {base : Heap}
def spReadRule (C : Addr) : Sp := fun vs H Q _ => ∃ (z : Str) (ds : List Wd), vs = [.str z] ∧ z.length ≤ 20000 ∧ wordsT z = ds.map some ∧ (∀ d ∈ ds, suitB rNs rTs d = true) ∧ ∀ p H', H p = none → Same H H' → RuleAt C H' p (ruleOf ds) → Q (.ref p) H'
theorem ok_read_rule (T : Txt K mg) : FnOk P w K mg base CX0 5 T.f_read_rule T.fd_read_rule ["text"] (spReadRule T.C_Rule) := by
  refine T.d_read_rule.F.ok sc_read_rule (fun vs H Q E h => ?_) (fun cdv A outer s H vs Q E hr h => ?_)
  · obtain ⟨z, ds, rfl, _⟩ := h
    rfl
  · obtain ⟨z, ds, rfl, hz, hw, hs, q⟩ := h
    refine ⟨_, (pss_cons (ps_set (i := 1) sc_read_rule.nd rfl (.inl rfl) (pe_call (ok_words_told T) (hr.mono (by decide)) (by rfl) T.d_words_told.g T.d_words_told.F.kp T.d_words_told.b .nil pass0 (pa_cons (pv 0) pa_nil)))
      (pss_cons (ps_set (i := 2) sc_read_rule.nd rfl (.inl rfl) (pe_call (ok_first_wrong T) (hr.mono (by decide)) (by rfl) T.d_first_wrong.g T.d_first_wrong.F.kp T.d_first_wrong.b .nil pass0 (pa_cons (pv 1) (pa_cons (pe_glob (v := .ref T.a_RULE_NUMBERS) (by rfl) T.g_RULE_NUMBERS rfl) (pa_cons (pe_glob (v := .ref T.a_RULE_TRUTHS) (by rfl) T.g_RULE_TRUTHS rfl) pa_nil)))))
      (pss_cons (ps_if (pt_cmpR op_notN (pv 2) pe_non (nomark _))
      (pss_one ps_never)
      pss_nil)
      (pss_one (ps_ret (pe_makeK0 T.mk_Rule (ok_Rule_init T) (hr.mono (by decide)) (by rfl) T.g_Rule T.kb_0.choose_spec pass0 (pk_cons (pe_callBK (cr_minDf rfl hr.units) (by rfl) T.m_min (by decide +kernel) (pa_cons (pe_call (ok_numbers_told T) (hr.mono (by decide)) (by rfl) T.d_numbers_told.g T.d_numbers_told.F.kp T.d_numbers_told.b .nil pass0 (pa_cons (pv 1) (pa_cons pe_str pa_nil))) pa_nil) (pk_cons pe_int pk_nil)) (pk_cons (pe_callBK (cr_minDf rfl hr.units) (by rfl) T.m_min (by decide +kernel) (pa_cons (pe_call (ok_numbers_told T) (hr.mono (by decide)) (by rfl) T.d_numbers_told.g T.d_numbers_told.F.kp T.d_numbers_told.b .nil pass0 (pa_cons (pv 1) (pa_cons pe_str pa_nil))) pa_nil) (pk_cons pe_int pk_nil)) (pk_cons (pe_callBK (cr_minDf rfl hr.units) (by rfl) T.m_min (by decide +kernel) (pa_cons (pe_call (ok_numbers_told T) (hr.mono (by decide)) (by rfl) T.d_numbers_told.g T.d_numbers_told.F.kp T.d_numbers_told.b .nil pass0 (pa_cons (pv 1) (pa_cons pe_str pa_nil))) pa_nil) (pk_cons pe_int pk_nil)) (pk_cons (pe_call (ok_is_told T) (hr.mono (by decide)) (by rfl) T.d_is_told.g T.d_is_told.F.kp T.d_is_told.b .nil pass0 (pa_cons (pv 1) (pa_cons pe_str pa_nil))) (pk_cons (pe_call (ok_is_told T) (hr.mono (by decide)) (by rfl) T.d_is_told.g T.d_is_told.F.kp T.d_is_told.b .nil pass0 (pa_cons (pv 1) (pa_cons pe_str pa_nil))) (pk_cons (pe_call (ok_is_told T) (hr.mono (by decide)) (by rfl) T.d_is_told.g T.d_is_told.F.kp T.d_is_told.b .nil pass0 (pa_cons (pv 1) (pa_cons pe_str pa_nil))) (pk_cons (pe_call (ok_is_told T) (hr.mono (by decide)) (by rfl) T.d_is_told.g T.d_is_told.F.kp T.d_is_told.b .nil pass0 (pa_cons (pv 1) (pa_cons pe_str pa_nil))) (pk_cons (pe_call (ok_is_told T) (hr.mono (by decide)) (by rfl) T.d_is_told.g T.d_is_told.F.kp T.d_is_told.b .nil pass0 (pa_cons (pv 1) (pa_cons pe_str pa_nil))) pk_nil)))))))))))))), ?_⟩
    refine ⟨.str z, rfl, z, rfl, hz, fun a xs H1 na s1 ea hx lx => ?_⟩
    rw [hw] at hx
    have ld : xs.length = ds.length := (Paired.length hx).trans (List.length_map ..)
    have hA : ∀ d ∈ ds, Asc d.1 := fun d hd => name_asc (words_names hw d hd)
    have hwr : wrongAt rNs rTs (ds.map some) = none := by
      refine wrong_none fun j u hj hu => ?_
      rw [List.getElem?_map] at hu
      cases hk : ds[j]? with
      | none =>
        rw [hk] at hu
        cases hu
      | some d =>
        rw [hk] at hu
        cases hu
        show (!suitB rNs rTs d) = false
        rw [hs d (List.mem_of_getElem? hk)]
        rfl
    refine ⟨.ref a, rfl, a, _, _, xs, ds.map some, rNs, rTs, rfl, ea, hx, T.q_RULE_NUMBERS, T.q_RULE_TRUTHS, fun H2 s2 => ?_⟩
    rw [hwr]
    refine ⟨_, rfl, rfl, false, rfl, ?_⟩
    have t2 := s1.trans s2
    have ea2 := s2 _ _ ea
    have hx2 := pwd_mono s2 hx
    obtain ⟨i_keep, e_keep⟩ := nums_some hs (show ("keep" : Str) ∈ rNs by decide)
    refine ⟨.ref a, rfl, a, "keep", xs, ds, rfl, ea2, hx2, by omega, fun m3 H3 s3 em3 => ?_⟩
    rw [e_keep, List.map_map] at em3
    refine ⟨m3, i_keep, _, rfl, rfl, SqL.of em3, ?_⟩
    have t3 := t2.trans s3
    have ea3 := s3 _ _ ea2
    have hx3 := pwd_mono s3 hx2
    obtain ⟨i_worn, e_worn⟩ := nums_some hs (show ("worn" : Str) ∈ rNs by decide)
    refine ⟨.ref a, rfl, a, "worn", xs, ds, rfl, ea3, hx3, by omega, fun m4 H4 s4 em4 => ?_⟩
    rw [e_worn, List.map_map] at em4
    refine ⟨m4, i_worn, _, rfl, rfl, SqL.of em4, ?_⟩
    have t4 := t3.trans s4
    have ea4 := s4 _ _ ea3
    have hx4 := pwd_mono s4 hx3
    obtain ⟨i_alone, e_alone⟩ := nums_some hs (show ("alone" : Str) ∈ rNs by decide)
    refine ⟨.ref a, rfl, a, "alone", xs, ds, rfl, ea4, hx4, by omega, fun m5 H5 s5 em5 => ?_⟩
    rw [e_alone, List.map_map] at em5
    refine ⟨m5, i_alone, _, rfl, rfl, SqL.of em5, ?_⟩
    have t5 := t4.trans s5
    have ea5 := s5 _ _ ea4
    have hx5 := pwd_mono s5 hx4
    refine ⟨.ref a, rfl, a, "anew", xs, ds, rfl, ea5, hx5, hA, by decide, fun H6 s6 => ?_⟩
    have t6 := t5.trans s6
    have ea6 := s6 _ _ ea5
    have hx6 := pwd_mono s6 hx5
    refine ⟨.ref a, rfl, a, "own", xs, ds, rfl, ea6, hx6, hA, by decide, fun H7 s7 => ?_⟩
    have t7 := t6.trans s7
    have ea7 := s7 _ _ ea6
    have hx7 := pwd_mono s7 hx6
    refine ⟨.ref a, rfl, a, "common", xs, ds, rfl, ea7, hx7, hA, by decide, fun H8 s8 => ?_⟩
    have t8 := t7.trans s8
    have ea8 := s8 _ _ ea7
    have hx8 := pwd_mono s8 hx7
    refine ⟨.ref a, rfl, a, "never", xs, ds, rfl, ea8, hx8, hA, by decide, fun H9 s9 => ?_⟩
    have t9 := t8.trans s9
    have ea9 := s9 _ _ ea8
    have hx9 := pwd_mono s9 hx8
    refine ⟨.ref a, rfl, a, "strict", xs, ds, rfl, ea9, hx9, hA, by decide, fun H10 s10 => ?_⟩
    have t10 := t9.trans s10
    have ea10 := s10 _ _ ea9
    have hx10 := pwd_mono s10 hx9
    refine ⟨rfl, rfl, fun p dx np ndx ndp => ⟨p, dx, ruleOf ds, ?_, upd_same, rfl, ?_⟩⟩
    · unfold ruleOf
      rw [ints_of e_keep]
      rw [ints_of e_worn]
      rw [ints_of e_alone]
      cases minI i_worn <;> cases minI i_keep <;> cases minI i_alone <;> rfl
    · rw [upd_upd]
      exact q p _ (t10.free np) (t10.trans ((same_upd ndx).trans (same_upd (by rw [upd_ne ndp.symm]; exact np)))) ⟨dx, upd_same⟩
def spReadWish (C : Addr) : Sp := fun vs H Q _ => ∃ (z : Str) (ds : List Wd), vs = [.str z] ∧ z.length ≤ 20000 ∧ wordsT z = ds.map some ∧ (∀ d ∈ ds, suitB wNs wTs d = true) ∧ ∀ p H', H p = none → Same H H' → WishAt C H' p (wishOf ds) → Q (.ref p) H'
theorem ok_read_wish (T : Txt K mg) : FnOk P w K mg base CX0 5 T.f_read_wish T.fd_read_wish ["text"] (spReadWish T.C_Wish) := by
  refine T.d_read_wish.F.ok sc_read_wish (fun vs H Q E h => ?_) (fun cdv A outer s H vs Q E hr h => ?_)
  · obtain ⟨z, ds, rfl, _⟩ := h
    rfl
  · obtain ⟨z, ds, rfl, hz, hw, hs, q⟩ := h
    refine ⟨_, (pss_cons (ps_set (i := 1) sc_read_wish.nd rfl (.inl rfl) (pe_call (ok_words_told T) (hr.mono (by decide)) (by rfl) T.d_words_told.g T.d_words_told.F.kp T.d_words_told.b .nil pass0 (pa_cons (pv 0) pa_nil)))
      (pss_cons (ps_set (i := 2) sc_read_wish.nd rfl (.inl rfl) (pe_call (ok_first_wrong T) (hr.mono (by decide)) (by rfl) T.d_first_wrong.g T.d_first_wrong.F.kp T.d_first_wrong.b .nil pass0 (pa_cons (pv 1) (pa_cons (pe_glob (v := .ref T.a_WISH_NUMBERS) (by rfl) T.g_WISH_NUMBERS rfl) (pa_cons (pe_glob (v := .ref T.a_WISH_TRUTHS) (by rfl) T.g_WISH_TRUTHS rfl) pa_nil)))))
      (pss_cons (ps_if (pt_cmpR op_notN (pv 2) pe_non (nomark _))
      (pss_one ps_never)
      pss_nil)
      (pss_one (ps_ret (pe_makeK0 T.mk_Wish (ok_Wish_init T) (hr.mono (by decide)) (by rfl) T.g_Wish T.kb_1.choose_spec pass0 (pk_cons (pe_callBK (cr_minDf rfl hr.units) (by rfl) T.m_min (by decide +kernel) (pa_cons (pe_call (ok_numbers_told T) (hr.mono (by decide)) (by rfl) T.d_numbers_told.g T.d_numbers_told.F.kp T.d_numbers_told.b .nil pass0 (pa_cons (pv 1) (pa_cons pe_str pa_nil))) pa_nil) (pk_cons pe_non pk_nil)) (pk_cons (pe_callBK (cr_maxDf rfl hr.units) (by rfl) T.m_max (by decide +kernel) (pa_cons (pe_call (ok_numbers_told T) (hr.mono (by decide)) (by rfl) T.d_numbers_told.g T.d_numbers_told.F.kp T.d_numbers_told.b .nil pass0 (pa_cons (pv 1) (pa_cons pe_str pa_nil))) pa_nil) (pk_cons pe_int pk_nil)) (pk_cons (pe_callBK (cr_minDf rfl hr.units) (by rfl) T.m_min (by decide +kernel) (pa_cons (pe_call (ok_numbers_told T) (hr.mono (by decide)) (by rfl) T.d_numbers_told.g T.d_numbers_told.F.kp T.d_numbers_told.b .nil pass0 (pa_cons (pv 1) (pa_cons pe_str pa_nil))) pa_nil) (pk_cons pe_int pk_nil)) (pk_cons (pe_call (ok_is_told T) (hr.mono (by decide)) (by rfl) T.d_is_told.g T.d_is_told.F.kp T.d_is_told.b .nil pass0 (pa_cons (pv 1) (pa_cons pe_str pa_nil))) (pk_cons (pe_call (ok_is_told T) (hr.mono (by decide)) (by rfl) T.d_is_told.g T.d_is_told.F.kp T.d_is_told.b .nil pass0 (pa_cons (pv 1) (pa_cons pe_str pa_nil))) (pk_cons (pe_call (ok_is_told T) (hr.mono (by decide)) (by rfl) T.d_is_told.g T.d_is_told.F.kp T.d_is_told.b .nil pass0 (pa_cons (pv 1) (pa_cons pe_str pa_nil))) pk_nil)))))))))))), ?_⟩
    refine ⟨.str z, rfl, z, rfl, hz, fun a xs H1 na s1 ea hx lx => ?_⟩
    rw [hw] at hx
    have ld : xs.length = ds.length := (Paired.length hx).trans (List.length_map ..)
    have hA : ∀ d ∈ ds, Asc d.1 := fun d hd => name_asc (words_names hw d hd)
    have hwr : wrongAt wNs wTs (ds.map some) = none := by
      refine wrong_none fun j u hj hu => ?_
      rw [List.getElem?_map] at hu
      cases hk : ds[j]? with
      | none =>
        rw [hk] at hu
        cases hu
      | some d =>
        rw [hk] at hu
        cases hu
        show (!suitB wNs wTs d) = false
        rw [hs d (List.mem_of_getElem? hk)]
        rfl
    refine ⟨.ref a, rfl, a, _, _, xs, ds.map some, wNs, wTs, rfl, ea, hx, T.q_WISH_NUMBERS, T.q_WISH_TRUTHS, fun H2 s2 => ?_⟩
    rw [hwr]
    refine ⟨_, rfl, rfl, false, rfl, ?_⟩
    have t2 := s1.trans s2
    have ea2 := s2 _ _ ea
    have hx2 := pwd_mono s2 hx
    obtain ⟨i_atmost, e_atmost⟩ := nums_some hs (show ("atmost" : Str) ∈ wNs by decide)
    refine ⟨.ref a, rfl, a, "atmost", xs, ds, rfl, ea2, hx2, by omega, fun m3 H3 s3 em3 => ?_⟩
    rw [e_atmost, List.map_map] at em3
    refine ⟨m3, i_atmost, _, rfl, rfl, SqL.of em3, ?_⟩
    have t3 := t2.trans s3
    have ea3 := s3 _ _ ea2
    have hx3 := pwd_mono s3 hx2
    obtain ⟨i_left, e_left⟩ := nums_some hs (show ("left" : Str) ∈ wNs by decide)
    refine ⟨.ref a, rfl, a, "left", xs, ds, rfl, ea3, hx3, by omega, fun m4 H4 s4 em4 => ?_⟩
    rw [e_left, List.map_map] at em4
    refine ⟨m4, i_left, _, rfl, rfl, SqL.of em4, ?_⟩
    have t4 := t3.trans s4
    have ea4 := s4 _ _ ea3
    have hx4 := pwd_mono s4 hx3
    obtain ⟨i_worn, e_worn⟩ := nums_some hs (show ("worn" : Str) ∈ wNs by decide)
    refine ⟨.ref a, rfl, a, "worn", xs, ds, rfl, ea4, hx4, by omega, fun m5 H5 s5 em5 => ?_⟩
    rw [e_worn, List.map_map] at em5
    refine ⟨m5, i_worn, _, rfl, rfl, SqL.of em5, ?_⟩
    have t5 := t4.trans s5
    have ea5 := s5 _ _ ea4
    have hx5 := pwd_mono s5 hx4
    refine ⟨.ref a, rfl, a, "anew", xs, ds, rfl, ea5, hx5, hA, by decide, fun H6 s6 => ?_⟩
    have t6 := t5.trans s6
    have ea6 := s6 _ _ ea5
    have hx6 := pwd_mono s6 hx5
    refine ⟨.ref a, rfl, a, "kept", xs, ds, rfl, ea6, hx6, hA, by decide, fun H7 s7 => ?_⟩
    have t7 := t6.trans s7
    have ea7 := s7 _ _ ea6
    have hx7 := pwd_mono s7 hx6
    refine ⟨.ref a, rfl, a, "firm", xs, ds, rfl, ea7, hx7, hA, by decide, fun H8 s8 => ?_⟩
    have t8 := t7.trans s8
    have ea8 := s8 _ _ ea7
    have hx8 := pwd_mono s8 hx7
    refine ⟨rfl, rfl, fun p dx np ndx ndp => ⟨p, dx, wishOf ds, ?_, upd_same, rfl, ?_⟩⟩
    · unfold wishOf
      rw [ints_of e_atmost]
      rw [ints_of e_left]
      rw [ints_of e_worn]
      cases minI i_worn <;> cases minI i_atmost <;> cases maxI i_left <;> rfl
    · rw [upd_upd]
      exact q p _ (t8.free np) (t8.trans ((same_upd ndx).trans (same_upd (by rw [upd_ne ndp.symm]; exact np)))) ⟨dx, upd_same⟩

def servB (r : RuleR) (w : WishR) (age : Int) (al : Bool) : Bool := decide (letW r w age ∈ (["fresh", "let", "worn"] : List Str)) || (al && (decide (letW r w age = "over") && decide (age < r.keep + r.alone)))
def spServes (C D : Addr) : Sp := fun vs H Q _ => ∃ (p q : Addr) (r : RuleR) (w : WishR) (age : Int) (al : Bool), vs = [.ref p, .ref q, .int age, .bl al] ∧ RuleAt C H p r ∧ WishAt D H q w ∧ Q (.bl (servB r w age al)) H
theorem ok_serves (T : Txt K mg) : FnOk P w K mg base CX0 2 T.f_serves T.fd_serves ["rule", "wish", "age", "alone"] (spServes T.C_Rule T.C_Wish) := by
  refine T.d_serves.F.ok sc_serves (fun vs H Q E h => ?_) (fun cdv A outer s H vs Q E hr h => ?_)
  · obtain ⟨p, q, r, w, age, al, rfl, _⟩ := h
    rfl
  · obtain ⟨p, q, r, w, age, al, rfl, hR, hW, k⟩ := h
    refine ⟨_, (pss_cons (ps_set (i := 4) sc_serves.nd rfl (.inl rfl) (pe_call (ok_lets T) (hr.mono (by decide)) (by rfl) T.d_lets.g T.d_lets.F.kp T.d_lets.b .nil pass0 (pa_cons (pv 0) (pa_cons (pv 1) (pa_cons (pv 2) pa_nil)))))
      (pss_cons (ps_if (pt_cmpR op_in_seq (pv 4) (pe_glob (v := .ref T.a_SERVED) (by rfl) T.g_SERVED rfl) rfl)
      (pss_one (ps_ret pe_bl))
      pss_nil)
      (pss_one (ps_ret (pe_pure (pe_and (pv 3) (pe_and (pe_cmpR op_eq (pv 4) pe_str (nomark _)) (pe_one (pe_cmpR op_lt (pv 2) (pe_op op_add (pe_fld (pv 0) rfl) (pe_fld (pv 0) rfl)) (nomark _)))))))))), ?_⟩
    unfold servB at k
    refine ⟨_, rfl, _, rfl, _, rfl, p, q, r, w, age, rfl, hR, hW, ?_⟩
    refine ⟨_, rfl, T.a_SERVED, _, rfl, .inr (T.q_SERVED H), rfl, flat_strs ["fresh", "let", "worn"], decide (letW r w age ∈ (["fresh", "let", "worn"] : List Str)), ?_, ite2 (fun e => ?_) (fun e => ?_)⟩
    · show V.bl (if false = true then _ else inV _ ((["fresh", "let", "worn"] : List Str).map V.str)) = _
      rw [if_neg Bool.false_ne_true, inV_strs]
    · rw [e, Bool.true_or] at k
      exact k
    rw [show decide (letW r w age ∈ (["fresh", "let", "worn"] : List Str)) = false by simpa using e, Bool.false_or] at k
    obtain ⟨dx, hp⟩ := hR
    refine ⟨.bl (al && (decide (letW r w age = "over") && decide (age < r.keep + r.alone))), ?_, k⟩
    refine ⟨_, rfl, al, rfl, ite2 (fun e1 => ?_) (fun e1 => ?_)⟩
    · rw [e1, Bool.true_and]
      have ee : decide (V.str (letW r w age) = V.str "over") = decide (letW r w age = "over") := by
        by_cases h : letW r w age = "over"
        · rw [decide_eq_true h, decide_eq_true (congrArg V.str h)]
        · rw [decide_eq_false h, decide_eq_false fun x => h (V.str.inj x)]
      refine ⟨_, rfl, rfl, _, rfl, ite2 (fun e2 => ?_) (fun e2 => ?_)⟩
      · rw [ee] at e2
        rw [e2, Bool.true_and]
        exact ⟨_, rfl, _, rfl, p, _, dx, _, _, rfl, hp, T.cl_Rule, T.n_Rule_keep, fR_keep r, _, rfl, p, _, dx, _, _, rfl, hp, T.cl_Rule, T.n_Rule_alone, fR_alone r, _, _, rfl, rfl, _, _, rfl, rfl, rfl, rfl⟩
      · rw [ee] at e2
        rw [show decide (letW r w age = "over") = false by simpa using e2]
        exact ⟨rfl, rfl⟩
    · rw [show al = false by simpa using e1]
      exact ⟨rfl, rfl⟩

end
end My
namespace My
open PySem PySem.Spec PyProof.Rows L2 TL
/-! ### numbers as texts -/
def nT (n : Int) : Str := Str.ofString (toString n)
def nS : Option Int → Str
  | none => ""
  | some n => nT n
theorem tl_nT (n : Nat) : (nT (n : Int)).cps.toList = numL n := tl_num n
theorem numL_head : ∀ n : Nat, 0 < n → ∃ c r, numL n = c :: r ∧ c ≠ 48
  | n, h => by
    by_cases h10 : n < 10
    · rw [numL_lt h10]
      exact ⟨48 + n, [], rfl, by omega⟩
    · have hd : n / 10 < n := Nat.div_lt_self h (by decide)
      obtain ⟨c, r, e, hc⟩ := numL_head (n / 10) (by omega)
      rw [numL_step (by omega), e]
      exact ⟨c, r ++ [48 + n % 10], rfl, hc⟩
theorem len_nT {n : Nat} (h : n < 10 ^ 60) : (nT (n : Int)).length ≤ 60 := by
  have := numL_len (k := 60) (by decide) h
  have e := My.len_tl (nT (n : Int))
  rw [tl_nT] at e
  omega
theorem dig_in {c : Nat} (h : 48 ≤ c ∧ c ≤ 57) : c ∈ ("0123456789" : Str).cps.toList := by
  have e : ("0123456789" : Str).cps.toList = [48, 49, 50, 51, 52, 53, 54, 55, 56, 57] := by decide
  rw [e]
  obtain ⟨h1, h2⟩ := h
  have : c = 48 ∨ c = 49 ∨ c = 50 ∨ c = 51 ∨ c = 52 ∨ c = 53 ∨ c = 54 ∨ c = 55 ∨ c = 56 ∨ c = 57 := by omega
  rcases this with rfl | rfl | rfl | rfl | rfl | rfl | rfl | rfl | rfl | rfl <;> decide
theorem fig_nT {n : Nat} (h : n < 10 ^ 60) : figB (nT (n : Int)) = true := by
  have hl := len_nT h
  have e := My.len_tl (nT (n : Int))
  have hne := numL_ne n
  rw [tl_nT] at e
  have h1 : 1 ≤ (nT (n : Int)).length := by
    cases hh : numL n with
    | nil => exact absurd hh hne
    | cons a r =>
      rw [hh, List.length_cons] at e
      omega
  unfold figB ofB
  rw [decide_eq_true (show (1 : Int) ≤ ((nT (n : Int)).length : Int) by omega), decide_eq_true (show ((nT (n : Int)).length : Int) ≤ 60 by omega)]
  have h2 : inB "0123456789" (nT (n : Int)) = true := by
    unfold inB
    rw [tl_nT, List.all_eq_true]
    intro c hc
    exact decide_eq_true (dig_in (numL_digits n c hc))
  rw [h2]
  show nought (nT (n : Int)) = true
  unfold nought
  by_cases h0 : n = 0
  · subst h0
    decide
  · obtain ⟨c, r, ec, hc⟩ := numL_head n (by omega)
    rw [tl_nT, ec]
    rw [decide_eq_false (fun z : (c :: r).head? = some 48 => hc (Option.some.inj z)), Bool.not_false, Bool.or_true]
theorem int_nT {n : Nat} (h : n < 10 ^ 60) : intText? (nT (n : Int)) = some (n : Int) := int_num (by have := numL_len (k := 60) (by decide) h; omega)
theorem nT_ne (n : Nat) : ¬ V.str (nT (n : Int)) = V.str "" := fun e => by
  have e1 := congrArg (fun s : Str => s.cps.toList) (V.str.inj e)
  exact numL_ne n ((tl_nT n).symm.trans (e1.trans (by decide)))
theorem asc_numL {n c : Nat} (h : c ∈ numL n) : 48 ≤ c ∧ c ≤ 57 := numL_digits n c h

/-! ### words written and read again -/
def okW (d : Wd) : Prop := nameB d.1 = true ∧ ∀ n, d.2 = some n → 0 ≤ n ∧ n < 10 ^ 60
def wtext (d : Wd) : Str := match d.2 with
  | none => d.1
  | some n => d.1 ++ " " ++ nT n
theorem name_sig {z : Str} (h : nameB z = true) : (∀ c ∈ tl z, 97 ≤ c ∧ c ≤ 122) ∧ 1 ≤ z.length ∧ z.length ≤ 8 := by
  unfold nameB ofB inB at h
  simp only [Bool.and_eq_true, decide_eq_true_eq] at h
  refine ⟨fun c hc => ?_, by omega, by omega⟩
  have := List.all_eq_true.mp h.2 c hc
  exact (by decide : ∀ c ∈ ("abcdefghijklmnopqrstuvwxyz" : Str).cps.toList, 97 ≤ c ∧ c ≤ 122) c (of_decide_eq_true this)
theorem sp_cons : tl (" " : Str) = 32 :: [] := by decide
theorem co_cons : tl ("," : Str) = 44 :: [] := by decide
theorem word_back {d : Wd} (h : okW d) : wordT (wtext d) = some d := by
  obtain ⟨nm, x⟩ := d
  obtain ⟨h1, h2⟩ := h
  dsimp only at h1 h2
  have hs := (name_sig h1).1
  have h32 : 32 ∉ tl nm := fun z => by have := hs 32 z; omega
  cases x with
  | none =>
    have e : Txt.partition nm " " = (nm, Str.empty, Str.empty) := partition_none sp_cons h32
    show wordT nm = _
    unfold wordT
    rw [e, if_pos h1, if_pos (show V.str Str.empty = V.str "" by decide)]
  | some n =>
    obtain ⟨n0, n1⟩ := h2 n rfl
    obtain ⟨m, rfl⟩ : ∃ m : Nat, n = m := ⟨n.toNat, by omega⟩
    have hm : m < 10 ^ 60 := by omega
    have e : Txt.partition (nm ++ " " ++ nT m) " " = (nm, (" " : Str), nT m) := partition_app sp_cons h32
    show wordT (nm ++ " " ++ nT m) = _
    unfold wordT
    rw [e, if_pos h1, if_neg (show ¬ V.str (" " : Str) = V.str "" by decide), if_pos (fig_nT hm), int_nT hm]
/-- no blank at either end -/
def Ends (z : Str) : Prop := (∃ a r, tl z = a :: r ∧ a ≠ 32) ∧ ∃ s b, tl z = s ++ [b] ∧ b ≠ 32
theorem strip_id {x : Str} (h : Ends x) : Txt.stripChars x " " = x := by
  obtain ⟨⟨a, r, e1, n1⟩, s, b, e2, n2⟩ := h
  have hc : ∀ c, c ≠ 32 → (" " : Str).cps.contains c = false := fun c hc => by
    have e : (" " : Str).cps = #[32] := by decide
    rw [e]
    simp
    omega
  have lo : stripLo (" " : Str).cps.contains true x = 0 := by
    unfold stripLo
    rw [if_pos rfl, show x.cps.toList = a :: r from e1, List.takeWhile_cons, hc a n1]
    rfl
  have hi : stripHi (" " : Str).cps.contains true x 0 = x.length := by
    unfold stripHi
    rw [if_pos rfl, List.drop_zero, show x.cps.toList = s ++ [b] from e2, List.reverse_append, List.reverse_singleton, List.singleton_append, List.takeWhile_cons, hc b n2]
    rfl
  unfold Txt.stripChars Txt.stripBy stripSame
  rw [lo, hi]
  simp
theorem ends_of {z : Str} (hne : tl z ≠ []) (h : ∀ c ∈ tl z, c ≠ 32) : Ends z := by
  constructor
  · cases e : tl z with
    | nil => exact absurd e hne
    | cons a r => exact ⟨a, r, rfl, h a (by rw [e]; exact List.mem_cons_self ..)⟩
  · obtain ⟨s, b, e⟩ : ∃ s b, tl z = s ++ [b] := ⟨_, _, (List.dropLast_concat_getLast hne).symm⟩
    exact ⟨s, b, e, h b (by rw [e]; simp)⟩
theorem ends_mid {a b c : Str} (ha : Ends a) (hc : Ends c) : Ends (a ++ b ++ c) := by
  obtain ⟨⟨x, r, e1, n1⟩, _⟩ := ha
  obtain ⟨_, s, y, e2, n2⟩ := hc
  refine ⟨⟨x, r ++ tl b ++ tl c, ?_, n1⟩, tl a ++ tl b ++ s, y, ?_, n2⟩
  · rw [tl_append, tl_append, e1]
    simp
  · rw [tl_append, tl_append, e2]
    simp
theorem name_ends {z : Str} (h : nameB z = true) : Ends z := by
  obtain ⟨h1, h2, _⟩ := name_sig h
  refine ends_of (fun e => ?_) fun c hc => ?_
  · have := My.len_tl z
    rw [show z.cps.toList = [] from e] at this
    have : 0 = z.length := this
    omega
  · have := h1 c hc
    omega
theorem wtext_ends {d : Wd} (h : okW d) : Ends (wtext d) := by
  obtain ⟨nm, x⟩ := d
  cases x with
  | none => exact name_ends h.1
  | some n =>
    obtain ⟨n0, n1⟩ := h.2 n rfl
    obtain ⟨m, rfl⟩ : ∃ m : Nat, n = m := ⟨n.toNat, by omega⟩
    refine ends_mid (name_ends h.1) (ends_of ?_ fun c hc => ?_)
    · rw [show tl (nT (m : Int)) = numL m from tl_nT m]
      exact numL_ne m
    · rw [show tl (nT (m : Int)) = numL m from tl_nT m] at hc
      have := numL_digits m c hc
      omega
theorem wtext_sig {d : Wd} (h : okW d) : ∀ c ∈ tl (wtext d), c ≠ 44 ∧ c < 128 := by
  obtain ⟨nm, x⟩ := d
  have hs := (name_sig h.1).1
  cases x with
  | none =>
    intro c hc
    have := hs c hc
    omega
  | some n =>
    obtain ⟨n0, n1⟩ := h.2 n rfl
    obtain ⟨m, rfl⟩ : ∃ m : Nat, n = m := ⟨n.toNat, by omega⟩
    intro c hc
    have hc' : c ∈ tl (nm ++ " " ++ nT m) := hc
    rw [tl_append, tl_append, sp_cons, show tl (nT (m : Int)) = numL m from tl_nT m] at hc'
    rcases List.mem_append.mp hc' with h1 | h1
    · rcases List.mem_append.mp h1 with h2 | h2
      · have := hs c h2
        omega
      · rw [List.mem_singleton.mp h2]
        decide
    · have := numL_digits m c h1
      omega
theorem wtext_len {d : Wd} (h : okW d) : (wtext d).length ≤ 70 := by
  obtain ⟨nm, x⟩ := d
  have hs := (name_sig h.1).2.2
  cases x with
  | none =>
    show nm.length ≤ 70
    have : nm.length ≤ 8 := hs
    omega
  | some n =>
    obtain ⟨n0, n1⟩ := h.2 n rfl
    obtain ⟨m, rfl⟩ : ∃ m : Nat, n = m := ⟨n.toNat, by omega⟩
    have := len_nT (n := m) (by omega)
    show (nm ++ " " ++ nT m).length ≤ 70
    rw [len_app, len_app]
    have : nm.length ≤ 8 := hs
    show nm.length + 1 + _ ≤ 70
    omega
theorem join_ends : ∀ (p : Str) (ps : List Str), (∀ z ∈ p :: ps, Ends z) → Ends (Txt.join "," (p :: ps))
  | p, [], h => by
    have e : Txt.join "," [p] = p := by
      apply ext_tl
      rw [join_eq, tl_join]
      rfl
    rw [e]
    exact h p (List.mem_cons_self ..)
  | p, q :: r, h => by
    have e : Txt.join "," (p :: q :: r) = p ++ "," ++ Txt.join "," (q :: r) := by
      apply ext_tl
      rw [join_eq, tl_join, tl_append, tl_append, join_eq, tl_join]
      show tl p ++ (tl "," ++ joinL (tl ",") ((q :: r).map tl)) = _
      rw [List.append_assoc]
    rw [e]
    exact ends_mid (h p (List.mem_cons_self ..)) (join_ends q r fun z hz => h z (List.mem_cons_of_mem _ hz))
theorem words_back {ds : List Wd} (h : ∀ d ∈ ds, okW d) : wordsT (Txt.join "," (ds.map wtext)) = ds.map some := by
  cases ds with
  | nil =>
    have e : Txt.join "," (([] : List Wd).map wtext) = "" := by
      apply ext_tl
      rw [join_eq, tl_join]
      decide
    rw [e]
    unfold wordsT
    rw [if_pos (by decide)]
    rfl
  | cons d r =>
    have he : Ends (Txt.join "," ((d :: r).map wtext)) := join_ends (wtext d) (r.map wtext) fun z hz => by
      obtain ⟨x, hx, rfl⟩ := List.mem_map.mp (show z ∈ (d :: r).map wtext from hz)
      exact wtext_ends (h x hx)
    unfold wordsT
    rw [strip_id he, if_neg]
    · rw [split_join co_cons (by decide +kernel) (by simp) fun p hp => ?_, List.map_map]
      · refine List.map_congr_left fun x hx => ?_
        show wordT (Txt.stripChars (wtext x) " ") = some x
        rw [strip_id (wtext_ends (h x hx)), word_back (h x hx)]
      · obtain ⟨x, hx, rfl⟩ := List.mem_map.mp hp
        intro z
        exact (wtext_sig (h x hx) 44 z).1 rfl
    · intro z
      obtain ⟨⟨a, s, e, _⟩, _⟩ := he
      rw [V.str.inj z] at e
      cases (show ([] : List Nat) = a :: s from e)
theorem words_len {ds : List Wd} (h : ∀ d ∈ ds, okW d) (hl : ds.length ≤ 200) : (Txt.join "," (ds.map wtext)).length ≤ 20000 := by
  have h1 := join_len "," (ds.map wtext)
  have h2 := sum_le (b := 70) (ds.map wtext) fun z hz => by
    obtain ⟨x, hx, rfl⟩ := List.mem_map.mp hz
    exact wtext_len (h x hx)
  rw [List.length_map] at h1 h2
  have e : ("," : Str).length = 1 := by decide
  rw [e] at h1
  omega

end My
namespace My
open PySem PySem.Spec PyProof.Rows L2 TL
section
variable {P : Program} {w : World} {K : PySem.W.Frag} {mg : Str → Option Value} {base : Heap}
def spNumber : Sp := fun vs H Q _ => ∃ (W : Addr), vs = [.ref W] ∧ IsW H W ∧ ∀ n H', 0 ≤ n → n < 10 ^ 60 → Wx W H H' → Q (.int n) H'
theorem ok_law_number (T : Txt K mg) : FnOk P w K mg base CX0 2 T.f_law_number T.fd_law_number ["_law_well_here"] spNumber := by
  refine T.d_law_number.F.ok sc_law_number (fun vs H Q E h => ?_) (fun cdv A outer s H vs Q E hr h => ?_)
  · obtain ⟨W, rfl, _⟩ := h
    rfl
  · obtain ⟨W, rfl, hI, q⟩ := h
    refine ⟨_, (pss_cons (ps_set (i := 1) sc_law_number.nd rfl (.inl rfl) (pe_call (ok_law_draw T) (hr.mono (by decide)) (by rfl) T.d_law_draw.g T.d_law_draw.F.kp T.d_law_draw.b .nil pass0 (pa_cons (pv 0) (pa_cons pe_int pa_nil))))
      (pss_cons (ps_if (pt_cmpR op_eq (pv 1) pe_int (nomark _))
      (pss_cons (ps_set (i := 2) sc_law_number.nd rfl (.inl rfl) pe_int)
      (pss_cons (ps_for PassesOwn.never rfl (pi_range1 (by rfl) T.m_range (pa_cons pe_int pa_nil)) (pg_name (i := 3) sc_law_number.nd rfl (.inl rfl))
      (pss_one (ps_set (i := 2) sc_law_number.nd rfl (.inl rfl) (pe_op op_add (pe_op op_mul (pv 2) (pe_op op_pow pe_int pe_int)) (pe_call (ok_law_draw T) (hr.mono (by decide)) (by rfl) T.d_law_draw.g T.d_law_draw.F.kp T.d_law_draw.b .nil pass0 (pa_cons (pv 0) (pa_cons (pe_op op_pow pe_int pe_int) pa_nil)))))))
      (pss_one (ps_ret (pv 2)))))
      pss_nil)
      (pss_one (ps_ret (pe_ix ix_list (pe_lst (pa_cons pe_int (pa_cons pe_int (pa_cons pe_int (pa_cons (pe_call (ok_law_draw T) (hr.mono (by decide)) (by rfl) T.d_law_draw.g T.d_law_draw.F.kp T.d_law_draw.b .nil pass0 (pa_cons (pv 0) (pa_cons pe_int pa_nil))) (pa_cons (pe_call (ok_law_draw T) (hr.mono (by decide)) (by rfl) T.d_law_draw.g T.d_law_draw.F.kp T.d_law_draw.b .nil pass0 (pa_cons (pv 0) (pa_cons pe_int pa_nil))) (pa_cons (pe_call (ok_law_draw T) (hr.mono (by decide)) (by rfl) T.d_law_draw.g T.d_law_draw.F.kp T.d_law_draw.b .nil pass0 (pa_cons (pv 0) (pa_cons pe_int pa_nil))) (pa_cons (pe_op op_pow pe_int pe_int) pa_nil)))))))) (pe_op op_sub (pv 1) pe_int) (fun _ _ => rfl)))))), ?_⟩
    refine ⟨.ref W, rfl, W, 8, rfl, by decide, by decide, hI, fun lot H1 l0 l1 x1 => ⟨_, rfl, rfl, _, rfl, ite2 (fun e => ?_) (fun e => ?_)⟩⟩
    · refine ⟨7, rfl, by decide, by decide, for_range (lo := 0) (n := 7) (fun i σ H' => ∃ n : Int, 0 ≤ n ∧ n < 10 ^ (8 * i) ∧ Wx W H H' ∧ ∃ y, σ = [some (.ref W), some (.int lot), some (.int n), y]) ⟨0, by decide, by decide, x1, none, rfl⟩ ?_ ?_⟩
      · rintro i σ H2 hi ⟨n, n0, n1, x2, y, rfl⟩
        refine ⟨.int n, rfl, 10, 8, rfl, rfl, ⟨by decide, by decide, by decide⟩, n, _, rfl, rfl, .inr ⟨by decide, by decide⟩, .ref W, rfl, 10, 8, rfl, rfl, ⟨by decide, by decide, by decide⟩, W, _, rfl, by decide, by decide, x2.well, fun r H3 r0 r1 x3 => ⟨_, r, rfl, rfl, _, ?_, ?_, x2.trans x3, _, rfl⟩⟩
        · have : 0 ≤ n * 10 ^ (8 : Int).toNat := Int.mul_nonneg n0 (by decide)
          omega
        · have e : (10 : Int) ^ (8 * (i + 1)) = 10 ^ (8 * i) * 100000000 := by rw [Nat.mul_add, Int.pow_add]; rfl
          have e2 : (10 : Int) ^ (8 : Int).toNat = 100000000 := by decide
          rw [e, e2]
          rw [e2] at r1
          omega
      · rintro σ H2 ⟨n, n0, n1, x2, y, rfl⟩
        exact ⟨_, rfl, q n H2 n0 (Int.lt_of_lt_of_le n1 (by decide)) x2⟩
    · have e0 : ¬ lot = 0 := fun z => e (decide_eq_true (by rw [z]))
      refine ⟨.ref W, rfl, W, 10, rfl, by decide, by decide, x1.well, fun a H2 a0 a1 x2 => ⟨.ref W, rfl, W, 10, rfl, by decide, by decide, x2.well, fun b H3 b0 b1 x3 => ⟨.ref W, rfl, W, 100, rfl, by decide, by decide, x3.well, fun c H4 c0 c1 x4 => ⟨10, 58, rfl, rfl, ⟨by decide, by decide, by decide⟩, (by show 7 ≤ sizeLine; decide), fun p hp => ?_⟩⟩⟩⟩
      obtain ⟨n, hn, en⟩ := ints_at (ns := [0, 1, 0, a, b, c, 10 ^ (58 : Int).toNat]) (r := lot - 1) (by omega) (by show lot - 1 < 7; omega)
      have bn : 0 ≤ n ∧ n < 10 ^ 60 := by
        simp only [List.mem_cons, List.not_mem_nil, or_false] at hn
        rcases hn with rfl | rfl | rfl | rfl | rfl | rfl | rfl
        · decide
        · decide
        · decide
        · exact ⟨a0, Int.lt_trans a1 (by decide)⟩
        · exact ⟨b0, Int.lt_trans b1 (by decide)⟩
        · exact ⟨c0, Int.lt_trans c1 (by decide)⟩
        · decide
      exact ⟨_, rfl, lot, 1, rfl, rfl, p, _, _, _, rfl, rfl, SqL.of upd_same, en, q n _ bn.1 bn.2 ((((x1.trans x2).trans x3).trans x4).new hp)⟩
/-! ### words by names and values -/
def tv : V → Option (Option Int)
  | .bl true => some none
  | .int n => some (some n)
  | _ => none
def okV (v : V) : Prop := v = .non ∨ (∃ b, v = .bl b) ∨ ∃ n, v = .int n ∧ 0 ≤ n ∧ n < 10 ^ 60
def dsV : List Str → List V → List Wd
  | n :: ns, v :: vs => (match tv v with | none => [] | some x => [(n, x)]) ++ dsV ns vs
  | _, _ => []
theorem dsV_len : ∀ (ns : List Str) (vs : List V), (dsV ns vs).length ≤ ns.length
  | [], vs => Nat.zero_le _
  | n :: ns, [] => Nat.zero_le _
  | n :: ns, v :: vs => by
    have := dsV_len ns vs
    show ((match tv v with | none => [] | some x => [(n, x)]) ++ dsV ns vs).length ≤ _
    cases tv v with
    | none =>
      simp only [List.length_append, List.length_cons, List.length_nil]
      omega
    | some x =>
      simp only [List.length_append, List.length_cons, List.length_nil]
      omega
theorem dsV_ok : ∀ {ns : List Str} {vs : List V}, (∀ n ∈ ns, nameB n = true) → (∀ v ∈ vs, okV v) → ∀ d ∈ dsV ns vs, okW d
  | [], vs, _, _, d, hd => nomatch (show d ∈ ([] : List Wd) from hd)
  | n :: ns, [], _, _, d, hd => nomatch (show d ∈ ([] : List Wd) from hd)
  | n :: ns, v :: vs, h1, h2, d, hd => by
    rcases List.mem_append.mp (show d ∈ (match tv v with | none => [] | some x => [(n, x)]) ++ dsV ns vs from hd) with h | h
    · rcases h2 v (List.mem_cons_self ..) with rfl | ⟨b, rfl⟩ | ⟨m, rfl, m0, m1⟩
      · cases h
      · cases b with
        | false => cases h
        | true =>
          rw [List.mem_singleton.mp h]
          exact ⟨h1 n (List.mem_cons_self ..), fun n e => by cases e⟩
      · rw [List.mem_singleton.mp h]
        exact ⟨h1 n (List.mem_cons_self ..), fun k e => by cases e; exact ⟨m0, m1⟩⟩
    · exact dsV_ok (fun n hn => h1 n (List.mem_cons_of_mem _ hn)) (fun v hv => h2 v (List.mem_cons_of_mem _ hv)) d h
theorem dsV_snoc : ∀ {ns : List Str} {vs : List V} {i : Nat} {n : Str} {v : V}, ns[i]? = some n → vs[i]? = some v → dsV (ns.take (i + 1)) (vs.take (i + 1)) = dsV (ns.take i) (vs.take i) ++ (match tv v with | none => [] | some x => [(n, x)])
  | [], _, _, _, _, h, _ => by simp at h
  | _ :: _, [], _, _, _, _, h => by simp at h
  | n' :: ns, v' :: vs, 0, n, v, h1, h2 => by
    cases h1
    cases h2
    show (match tv v' with | none => [] | some x => [(n', x)]) ++ dsV (ns.take 0) (vs.take 0) = [] ++ _
    rw [List.take_zero, List.take_zero]
    show _ ++ [] = _
    rw [List.append_nil, List.nil_append]
  | n' :: ns, v' :: vs, i + 1, n, v, h1, h2 => by
    show _ ++ dsV (ns.take (i + 1)) (vs.take (i + 1)) = (_ ++ dsV (ns.take i) (vs.take i)) ++ _
    rw [dsV_snoc (ns := ns) (vs := vs) h1 h2, List.append_assoc]
def spLWords : Sp := fun vs H Q _ => ∃ (a b : Addr) (ns : List Str) (us : List V), vs = [.ref a, .ref b] ∧ H a = some (.lst (ns.map V.str)) ∧ H b = some (.lst us) ∧ us.length = ns.length ∧ ns.length ≤ 20 ∧ (∀ n ∈ ns, nameB n = true) ∧ (∀ v ∈ us, okV v) ∧
  ∀ H', Same H H' → Q (.str (Txt.join "," ((dsV ns us).map wtext))) H'
theorem ok_law_words (T : Txt K mg) : FnOk P w K mg base CX0 1 T.f_law_words T.fd_law_words ["_law_names", "_law_some"] spLWords := by
  refine T.d_law_words.F.ok sc_law_words (fun vs H Q E h => ?_) (fun cdv A outer s H vs Q E hr h => ?_)
  · obtain ⟨a, b, ns, us, rfl, _⟩ := h
    rfl
  · obtain ⟨a, b, ns, us, rfl, ha, hb, lu, ln, hn, hu, q⟩ := h
    refine ⟨_, (pss_cons (ps_set (i := 2) sc_law_words.nd rfl (.inl rfl) (pe_lst pa_nil))
      (pss_cons (ps_for PassesOwn.never rfl (pi_range1 (by rfl) T.m_range (pa_cons (pe_callB call_len_seq (by rfl) T.m_len (by decide +kernel) (pa_cons (pv 0) pa_nil)) pa_nil)) (pg_name (i := 3) sc_law_words.nd rfl (.inl rfl))
      (pss_one (ps_if (pt_cmpR op_isA (pe_ix ix_list (pv 1) (pv 3) (fun _ _ => rfl)) pe_bl (nomark _))
      (pss_one (ps_expr (pe_bm PySem.F.plainAttrs_list PySem.F.slot_list_append PySem.F.type_list_append mt_append (pv 2) (pa_cons (pe_ix ix_list (pv 0) (pv 3) (fun _ _ => rfl)) pa_nil))))
      (pss_one (ps_if (pt_pure (PW.pt (pw_and (pt_cmpR op_notA (pe_ix ix_list (pv 1) (pv 3) (fun _ _ => rfl)) pe_bl (nomark _)) (pw_and1 (pt_cmpR op_notN (pe_ix ix_list (pv 1) (pv 3) (fun _ _ => rfl)) pe_non (nomark _))))))
      (pss_one (ps_expr (pe_bm PySem.F.plainAttrs_list PySem.F.slot_list_append PySem.F.type_list_append mt_append (pv 2) (pa_cons (pe_op op_add_str (pe_op op_add_str (pe_ix ix_list (pv 0) (pv 3) (fun _ _ => rfl)) pe_str) (pe_callTy call_str_int (by rfl) T.m_str (by decide +kernel) (pa_cons (pe_ix ix_list (pv 1) (pv 3) (fun _ _ => rfl)) pa_nil))) pa_nil))))
      pss_nil)))))
      (pss_one (ps_ret (pe_join pe_str (pv 2)))))), ?_⟩
    refine ⟨Nat.zero_le _, fun L hL => ?_⟩
    have sL := same_upd (o := .lst []) hL
    have lns : (ns.map V.str).length = ns.length := List.length_map ..
    refine ⟨.ref a, rfl, a, _, rfl, .inl (SqL.of (sL _ _ ha)), _, rfl, by omega, by omega, for_range (lo := 0) (n := (((ns.map V.str).length : Nat) : Int).toNat) (fun i σ H' => Same H H' ∧ H' L = some (.lst ((dsV (ns.take i) (us.take i)).map fun d => V.str (wtext d))) ∧ ∃ y3, σ = [some (.ref a), some (.ref b), some (.ref L), y3])
      ⟨sL, upd_same, none, rfl⟩ ?_ ?_⟩
    · rintro i σ H1 hi ⟨s1, eL, y3, rfl⟩
      have hi' : i < ns.length := by omega
      obtain ⟨n, en⟩ : ∃ n, ns[i]? = some n := ⟨ns[i], List.getElem?_eq_getElem hi'⟩
      obtain ⟨v, ev⟩ : ∃ v, us[i]? = some v := ⟨us[i]'(by omega), List.getElem?_eq_getElem (by omega)⟩
      have an : atI (ns.map V.str) (0 + (i : Int)) = some (.str n) := by
        rw [Int.zero_add]
        exact atI_nat (by rw [List.getElem?_map, en]; rfl)
      have av : atI us (0 + (i : Int)) = some v := by
        rw [Int.zero_add]
        exact atI_nat ev
      have ha1 := SqL.of (K := K) (s1 _ _ ha)
      have hb1 := SqL.of (K := K) (s1 _ _ hb)
      have sn := dsV_snoc en ev
      have nl := (name_sig (hn n (List.mem_of_getElem? en))).2.2
      have ld : ((dsV (ns.take i) (us.take i)).map fun d => V.str (wtext d)).length ≤ 20 := by
        rw [List.length_map]
        have := dsV_len (ns.take i) (us.take i)
        rw [List.length_take] at this
        omega
      rcases hu v (List.mem_of_getElem? ev) with rfl | ⟨bb, rfl⟩ | ⟨m, rfl, m0, m1⟩
      · refine ⟨.ref b, rfl, _, rfl, b, _, _, _, rfl, rfl, hb1, av, true, rfl, false, rfl, ?_⟩
        refine ⟨false, ⟨.ref b, rfl, _, rfl, b, _, _, _, rfl, rfl, hb1, av, false, rfl, true, rfl, .ref b, rfl, _, rfl, b, _, _, _, rfl, rfl, hb1, av, rfl, false, rfl, rfl, rfl⟩, s1, ?_, _, rfl⟩
        rw [eL, sn]
        show _ = some (HO.lst ((_ ++ []).map _))
        rw [List.append_nil]
      · cases bb with
        | true =>
          refine ⟨.ref b, rfl, _, rfl, b, _, _, _, rfl, rfl, hb1, av, true, rfl, true, rfl, ?_⟩
          refine ⟨.ref L, rfl, .inl ⟨rfl, _, SqL.of eL⟩, .ref a, rfl, _, rfl, a, _, _, _, rfl, rfl, ha1, an, L, _, _, rfl, rfl, eL, szlt (by omega), same_mut s1 hL, ?_, _, rfl⟩
          rw [upd_same, sn, List.map_append]
          rfl
        | false =>
          refine ⟨.ref b, rfl, _, rfl, b, _, _, _, rfl, rfl, hb1, av, true, rfl, false, rfl, ?_⟩
          refine ⟨false, ⟨.ref b, rfl, _, rfl, b, _, _, _, rfl, rfl, hb1, av, false, rfl, false, rfl, rfl, rfl⟩, s1, ?_, _, rfl⟩
          rw [eL, sn]
          show _ = some (HO.lst ((_ ++ []).map _))
          rw [List.append_nil]
      · refine ⟨.ref b, rfl, _, rfl, b, _, _, _, rfl, rfl, hb1, av, true, rfl, false, rfl, ?_⟩
        refine ⟨true, ⟨.ref b, rfl, _, rfl, b, _, _, _, rfl, rfl, hb1, av, false, rfl, true, rfl, .ref b, rfl, _, rfl, b, _, _, _, rfl, rfl, hb1, av, rfl, true, rfl, rfl, rfl⟩, ?_⟩
        obtain ⟨k, rfl⟩ : ∃ k : Nat, m = k := ⟨m.toNat, by omega⟩
        have lk := len_nT (n := k) (by omega)
        refine ⟨.ref L, rfl, .inl ⟨rfl, _, SqL.of eL⟩, .ref a, rfl, _, rfl, a, _, _, _, rfl, rfl, ha1, an, _, _, rfl, rfl, szl (by show n.length + 1 ≤ _; omega), .ref b, rfl, _, rfl, b, _, _, _, rfl, rfl, hb1, av, (k : Int), rfl, ?_, _, _, rfl, rfl, ?_, ?_⟩
        · have : ((k : Int).natAbs) = k := rfl
          rw [this]
          by_cases k0 : k = 0
          · subst k0
            decide
          · exact (Nat.log2_lt k0).mpr (Nat.lt_trans (show k < 10 ^ 60 by omega) (Nat.lt_of_lt_of_le (show 10 ^ 60 < 2 ^ 200 by decide) (Nat.pow_le_pow_right (by decide) (by decide))))
        · rw [len_app]
          exact szl (by show n.length + 1 + (nT (k : Int)).length ≤ _; omega)
        · refine ⟨L, _, _, rfl, rfl, eL, szlt (by omega), same_mut s1 hL, ?_, _, rfl⟩
          rw [upd_same, sn, List.map_append]
          rfl
    · rintro σ H1 ⟨s1, eL, y3, rfl⟩
      have e1 : (((ns.map V.str).length : Nat) : Int).toNat = ns.length := by omega
      rw [e1, List.take_length, List.take_of_length_le (Nat.le_of_eq lu)] at eL
      have hd := dsV_ok hn hu
      refine ⟨⟨_, rfl⟩, .ref L, rfl, ",", L, (dsV ns us).map wtext, rfl, rfl, .inl (SqL.of ?_), ?_, q H1 s1⟩
      · rw [eL, List.map_map]
        rfl
      · have h2 := sum_le (b := 70) ((dsV ns us).map wtext) fun z hz => by
          obtain ⟨x, hx, rfl⟩ := List.mem_map.mp hz
          exact wtext_len (hd x hx)
        have h3 := dsV_len ns us
        rw [List.length_map] at h2 ⊢
        have e : ("," : Str).length = 1 := by decide
        rw [e]
        omega
end
end My
namespace My
open PySem PySem.Spec PyProof.Rows L2 TL
section
variable {P : Program} {w : World} {K : PySem.W.Frag} {mg : Str → Option Value} {base : Heap}
def mR (r : RuleR) : List V := [.int r.keep, .int r.worn, .int r.alone, .bl r.anew, .bl r.strict, .bl r.never]
def mW (w : WishR) : List V := [oV w.atmost, .int w.left, .int w.worn, .bl w.anew, .bl w.firm, .bl w.kept]
def sz (n : Int) : Prop := 0 ≤ n ∧ n < 10 ^ 60
structure gR (r : RuleR) : Prop where
  keep : sz r.keep
  worn : sz r.worn
  alone : sz r.alone
  own : r.own = false
  common : r.common = false
structure gW (w : WishR) : Prop where
  atmost : ∀ n, w.atmost = some n → sz n
  left : sz w.left
  worn : sz w.worn
theorem threeB {bs : List Bool} (h : bs.length = 3) : ∃ a b c, bs = [a, b, c] := match bs, h with
  | [a, b, c], _ => ⟨a, b, c, rfl⟩
theorem threeI {bs : List Int} (h : bs.length = 3) : ∃ a b c, bs = [a, b, c] := match bs, h with
  | [a, b, c], _ => ⟨a, b, c, rfl⟩
def spRRow : Sp := fun vs H Q _ => ∃ (W : Addr), vs = [.ref W] ∧ IsW H W ∧ ∀ p r H', H p = none → Wx W H H' → H' p = some (.lst (mR r)) → gR r → Q (.ref p) H'
theorem ok_law_rule_row (T : Txt K mg) : FnOk P w K mg base CX0 3 T.f_law_rule_row T.fd_law_rule_row ["_law_well_here"] spRRow := by
  refine T.d_law_rule_row.F.ok sc_law_rule_row (fun vs H Q E h => ?_) (fun cdv A outer s H vs Q E hr h => ?_)
  · obtain ⟨W, rfl, _⟩ := h
    rfl
  · obtain ⟨W, rfl, hI, q⟩ := h
    refine ⟨_, (pss_cons (ps_setLc (i := 1) (own := [("_law_k", 2)]) (g := gName 2) (tt := tYes) (by rfl) sc_law_rule_row.nd rfl rfl (sw_true rfl rfl rfl (by decide +kernel)) (pi_range1 (by rfl) T.m_range (pa_cons pe_int pa_nil)) (blkOk_by (own := [("_law_k", 2)]) (N := ["_law_well_here", "_law_found", "_law_k"]) (sc := defScope s_law_rule_row) (by decide +kernel)) (fun _ _ _ _ _ => (pg_name (i := 2) sc_law_rule_row.nd rfl (Or.inl rfl))) (fun _ _ _ _ _ => pts_nil) (fun _ _ _ _ _ => (pe_call (ok_law_number T) (hr.mono (by decide)) (by rfl) T.d_law_number.g T.d_law_number.F.kp T.d_law_number.b .nil pass0 (pa_cons (pv 0) pa_nil))))
      (pss_one (ps_ret (pe_op op_cat (pv 1) (pe_lc (own := [("_law_k", 2)]) (g := gName 2) (tt := tYes) (by rfl) sc_law_rule_row.nd (pi_range1 (by rfl) T.m_range (pa_cons pe_int pa_nil)) (blkOk_by (own := [("_law_k", 2)]) (N := ["_law_well_here", "_law_found", "_law_k"]) (sc := defScope s_law_rule_row) (by decide +kernel)) (fun _ _ _ _ _ => (pg_name (i := 2) sc_law_rule_row.nd rfl (Or.inl rfl))) (fun _ _ _ _ _ => pts_nil) (fun _ _ _ _ _ => (pe_cmpR op_eq (pe_call (ok_law_draw T) (hr.mono (by decide)) (by rfl) T.d_law_draw.g T.d_law_draw.F.kp T.d_law_draw.b .nil pass0 (pa_cons (pv 0) (pa_cons pe_int pa_nil))) pe_int (nomark _)))))))), ?_⟩
    refine ⟨3, rfl, by decide, by decide, fun D hD => ?_⟩
    have nWD : W ≠ D := hI.ne hD
    refine lc_range (lo := 0) (n := 3) (fun i H' => ∃ ns : List Int, ns.length = i ∧ (∀ n ∈ ns, sz n) ∧ Wx W H H' ∧ H' D = some (.lst (ns.map V.int))) ⟨[], rfl, (fun _ z => nomatch z), (Wx.refl hI).new hD, upd_same⟩ ?_ ?_
    · rintro i H' hi ⟨ns, bn, hn, x, eD⟩
      refine ⟨rfl, .ref W, rfl, W, rfl, x.well, fun r H5 r0 r1 x5 => ⟨_, x5.keep D _ nWD.symm eD, by rw [List.length_map]; exact szlt (by omega), ns ++ [r], by rw [List.length_append, bn]; rfl, fun n hn' => ?_, (x.trans x5).mut hD nWD, by rw [upd_same, List.map_append]; rfl⟩⟩
      rcases List.mem_append.mp hn' with h | h
      · exact hn n h
      · rw [List.mem_singleton.mp h]
        exact ⟨r0, r1⟩
    rintro H1 ⟨ns, bn, hn, x1, eD⟩
    obtain ⟨a, b, c, rfl⟩ := threeI bn
    refine ⟨.ref D, rfl, 3, rfl, by decide, by decide, fun E hE => ?_⟩
    have nWE : W ≠ E := x1.well.ne hE
    have hE0 : H E = none := x1.free hE
    have nDE : D ≠ E := ne_of_none eD hE
    refine lc_range (lo := 0) (n := 3) (fun i H' => ∃ bs : List Bool, bs.length = i ∧ Wx W H H' ∧ H' D = some (.lst ([a, b, c].map V.int)) ∧ H' E = some (.lst (bs.map V.bl))) ⟨[], rfl, x1.new hE, by rw [upd_ne nDE]; exact eD, upd_same⟩ ?_ ?_
    · rintro i H' hi ⟨bs, bn, x, e1, e2⟩
      exact ⟨rfl, .ref W, rfl, W, 6, rfl, by decide, by decide, x.well, fun r H5 r0 r1 x5 => ⟨rfl, _, x5.keep E _ nWE.symm e2, by rw [List.length_map]; exact szlt (by omega), bs ++ [decide (V.int r = V.int 0)], by rw [List.length_append, bn]; rfl, (x.trans x5).mut hE0 nWE, by rw [upd_ne nDE]; exact x5.keep _ _ nWD.symm e1, by rw [upd_same, List.map_append]; rfl⟩⟩
    rintro H2 ⟨bs, bn, x2, e1, e2⟩
    obtain ⟨b1, b2, b3, rfl⟩ := threeB bn
    refine ⟨D, E, _, _, rfl, rfl, e1, e2, (by show 6 ≤ sizeLine; decide), fun p hp => ?_⟩
    exact q p ⟨a, b, c, b1, false, false, b3, b2⟩ _ (x2.free hp) (x2.new hp) upd_same ⟨hn a (by simp), hn b (by simp), hn c (by simp), rfl, rfl⟩
def spWRow : Sp := fun vs H Q _ => ∃ (W : Addr), vs = [.ref W] ∧ IsW H W ∧ ∀ p w H', H p = none → Wx W H H' → H' p = some (.lst (mW w)) → gW w → Q (.ref p) H'
theorem ok_law_wish_row (T : Txt K mg) : FnOk P w K mg base CX0 3 T.f_law_wish_row T.fd_law_wish_row ["_law_well_here"] spWRow := by
  refine T.d_law_wish_row.F.ok sc_law_wish_row (fun vs H Q E h => ?_) (fun cdv A outer s H vs Q E hr h => ?_)
  · obtain ⟨W, rfl, _⟩ := h
    rfl
  · obtain ⟨W, rfl, hI, q⟩ := h
    refine ⟨_, (pss_cons (ps_set (i := 1) sc_law_wish_row.nd rfl (.inl rfl) (pe_lst (pa_cons (pe_ix ix_list (pe_lst (pa_cons pe_non (pa_cons pe_non (pa_cons (pe_call (ok_law_number T) (hr.mono (by decide)) (by rfl) T.d_law_number.g T.d_law_number.F.kp T.d_law_number.b .nil pass0 (pa_cons (pv 0) pa_nil)) pa_nil)))) (pe_call (ok_law_draw T) (hr.mono (by decide)) (by rfl) T.d_law_draw.g T.d_law_draw.F.kp T.d_law_draw.b .nil pass0 (pa_cons (pv 0) (pa_cons pe_int pa_nil))) (fun _ _ => rfl)) pa_nil)))
      (pss_cons (ps_expr (pe_bm PySem.F.plainAttrs_list PySem.F.slot_list_append PySem.F.type_list_append mt_append (pv 1) (pa_cons (pe_op op_mul (pe_call (ok_law_number T) (hr.mono (by decide)) (by rfl) T.d_law_number.g T.d_law_number.F.kp T.d_law_number.b .nil pass0 (pa_cons (pv 0) pa_nil)) (pe_op op_fdiv (pe_call (ok_law_draw T) (hr.mono (by decide)) (by rfl) T.d_law_draw.g T.d_law_draw.F.kp T.d_law_draw.b .nil pass0 (pa_cons (pv 0) (pa_cons pe_int pa_nil))) pe_int)) pa_nil)))
      (pss_cons (ps_expr (pe_bm PySem.F.plainAttrs_list PySem.F.slot_list_append PySem.F.type_list_append mt_append (pv 1) (pa_cons (pe_call (ok_law_number T) (hr.mono (by decide)) (by rfl) T.d_law_number.g T.d_law_number.F.kp T.d_law_number.b .nil pass0 (pa_cons (pv 0) pa_nil)) pa_nil)))
      (pss_one (ps_ret (pe_op op_cat (pv 1) (pe_lc (own := [("_law_k", 2)]) (g := gName 2) (tt := tYes) (by rfl) sc_law_wish_row.nd (pi_range1 (by rfl) T.m_range (pa_cons pe_int pa_nil)) (blkOk_by (own := [("_law_k", 2)]) (N := ["_law_well_here", "_law_found", "_law_k"]) (sc := defScope s_law_wish_row) (by decide +kernel)) (fun _ _ _ _ _ => (pg_name (i := 2) sc_law_wish_row.nd rfl (Or.inl rfl))) (fun _ _ _ _ _ => pts_nil) (fun _ _ _ _ _ => (pe_cmpR op_eq (pe_call (ok_law_draw T) (hr.mono (by decide)) (by rfl) T.d_law_draw.g T.d_law_draw.F.kp T.d_law_draw.b .nil pass0 (pa_cons (pv 0) (pa_cons pe_int pa_nil))) pe_int (nomark _)))))))))), ?_⟩
    refine ⟨.ref W, rfl, W, rfl, hI, fun n4 H1 n40 n41 x1 => ⟨(by show 3 ≤ sizeLine; decide), fun l hl => ?_⟩⟩
    have y1 := x1.new (o := .lst [.non, .non, .int n4]) hl
    have nWl : W ≠ l := x1.well.ne hl
    refine ⟨.ref W, rfl, W, 3, rfl, by decide, by decide, y1.well, fun r6 H6 r60 r61 x6 => ?_⟩
    obtain ⟨am, eam, ham⟩ : ∃ am : Option Int, atI [V.non, V.non, V.int n4] r6 = some (oV am) ∧ ∀ n, am = some n → sz n := by
      have h012 : r6 = 0 ∨ r6 = 1 ∨ r6 = 2 := by omega
      rcases h012 with rfl | rfl | rfl
      · exact ⟨none, rfl, fun _ z => by cases z⟩
      · exact ⟨none, rfl, fun _ z => by cases z⟩
      · exact ⟨some n4, rfl, fun _ z => by cases z; exact ⟨n40, n41⟩⟩
    have y6 := y1.trans x6
    refine ⟨l, _, _, _, rfl, rfl, SqL.of (x6.keep l _ nWl.symm upd_same), eam, (by show 1 ≤ sizeLine; decide), fun p2 h2 => ?_⟩
    have nW2 : W ≠ p2 := y6.well.ne h2
    have h20 : H p2 = none := y6.free h2
    have y7 := y6.new (o := .lst [oV am]) h2
    refine ⟨.ref p2, rfl, .inl ⟨rfl, _, SqL.of upd_same⟩, .ref W, rfl, W, rfl, y7.well, fun n7 H7 n70 n71 x7 => ⟨.ref W, rfl, W, 3, rfl, by decide, by decide, x7.well, fun r8 H8 r80 r81 x8 => ⟨r8, 2, rfl, rfl, ⟨by decide, by decide⟩, n7, _, rfl, rfl, .inr (by constructor <;> omega), ?_⟩⟩⟩
    have bl : sz (n7 * (r8 / 2)) := by
      have : r8 / 2 = 0 ∨ r8 / 2 = 1 := by omega
      rcases this with e | e
      · rw [e, Int.mul_zero]
        exact ⟨by decide, by decide⟩
      · rw [e, Int.mul_one]
        exact ⟨n70, n71⟩
    have e28 := x8.keep p2 _ nW2.symm (x7.keep p2 _ nW2.symm upd_same)
    refine ⟨p2, _, _, rfl, rfl, e28, (by show 1 < sizeLine; decide), ?_⟩
    have y8 := ((y7.trans x7).trans x8).mut (o := .lst ([oV am] ++ [.int (n7 * (r8 / 2))])) h20 nW2
    refine ⟨.ref p2, rfl, .inl ⟨rfl, _, SqL.of upd_same⟩, .ref W, rfl, W, rfl, y8.well, fun n9 H9 n90 n91 x9 => ?_⟩
    refine ⟨p2, _, _, rfl, rfl, x9.keep p2 _ nW2.symm upd_same, (by show 2 < sizeLine; decide), ?_⟩
    have y9 := (y8.trans x9).mut (o := .lst ([oV am] ++ [.int (n7 * (r8 / 2))] ++ [.int n9])) h20 nW2
    refine ⟨.ref p2, rfl, 3, rfl, by decide, by decide, fun E hE => ?_⟩
    have nWE : W ≠ E := y9.well.ne hE
    have hE0 : H E = none := y9.free hE
    have n2E : p2 ≠ E := ne_of_none upd_same hE
    refine lc_range (lo := 0) (n := 3) (fun i H' => ∃ bs : List Bool, bs.length = i ∧ Wx W H H' ∧ H' p2 = some (.lst ([oV am] ++ [.int (n7 * (r8 / 2))] ++ [.int n9])) ∧ H' E = some (.lst (bs.map V.bl))) ⟨[], rfl, y9.new hE, (upd_ne n2E).trans upd_same, upd_same⟩ ?_ ?_
    · rintro i H' hi ⟨bs, bn, x, e1, eD⟩
      refine ⟨rfl, .ref W, rfl, W, 6, rfl, by decide, by decide, x.well, fun r H5 r0 r1 x5 => ⟨rfl, _, x5.keep E _ nWE.symm eD, by rw [List.length_map]; exact szlt (by omega), bs ++ [decide (V.int r = V.int 0)], by rw [List.length_append, bn]; rfl, (x.trans x5).mut hE0 nWE, by rw [upd_ne n2E]; exact x5.keep _ _ nW2.symm e1, by rw [upd_same, List.map_append]; rfl⟩⟩
    rintro HA ⟨bs2, bn2, xA, eA, eE⟩
    obtain ⟨c1, c2, c3, rfl⟩ := threeB bn2
    refine ⟨p2, E, _, _, rfl, rfl, eA, eE, (by show 6 ≤ sizeLine; decide), fun p3 h3 => ?_⟩
    exact q p3 ⟨am, n7 * (r8 / 2), n9, c1, c3, c2⟩ _ (xA.free h3) (xA.new h3) upd_same ⟨ham, bl, n90, n91⟩
end
end My
namespace My
open PySem PySem.Spec PyProof.Rows L2 TL
/-! ### until when a copy may be served -/
def mxI (i j : Int) : Int := if j > i then j else i
def mnI (i j : Int) : Int := if j < i then j else i
def openB (r : RuleR) (w : WishR) : Bool := decide (w.left = 0) && (!r.strict && !w.firm)
def t1 (r : RuleR) (w : WishR) : Int := if openB r w = true then r.keep + mxI w.worn r.worn else r.keep - w.left
def u1 (r : RuleR) (w : WishR) : Int := if openB r w = true then mxI (r.keep + mxI w.worn r.worn) (r.keep + r.alone) else r.keep - w.left
def cutM (m : Option Int) (t : Int) : Int := match m with
  | none => t
  | some m => mnI t (m + 1)
def tillF (r : RuleR) (w : WishR) : Int := if (r.anew || w.anew) = true then 0 else cutM w.atmost (t1 r w)
def moreF (r : RuleR) (w : WishR) : Int := if (r.anew || w.anew) = true then 0 else cutM w.atmost (u1 r w)
theorem serv_all (r : RuleR) (w : WishR) (age : Int) (a0 : 0 ≤ age) (h1 : 0 ≤ w.left) (h2 : 0 ≤ w.worn) (al : Bool) : servB r w age al = decide (age < if al = true then moreF r w else tillF r w) := by
  have f1 : decide (("anew" : Str) ∈ (["fresh", "let", "worn"] : List Str)) = false := by decide
  have f2 : decide (("old" : Str) ∈ (["fresh", "let", "worn"] : List Str)) = false := by decide
  have f3 : decide (("fresh" : Str) ∈ (["fresh", "let", "worn"] : List Str)) = true := by decide
  have f4 : decide (("left" : Str) ∈ (["fresh", "let", "worn"] : List Str)) = false := by decide
  have f5 : decide (("firm" : Str) ∈ (["fresh", "let", "worn"] : List Str)) = false := by decide
  have f6 : decide (("let" : Str) ∈ (["fresh", "let", "worn"] : List Str)) = true := by decide
  have f7 : decide (("worn" : Str) ∈ (["fresh", "let", "worn"] : List Str)) = true := by decide
  have f8 : decide (("over" : Str) ∈ (["fresh", "let", "worn"] : List Str)) = false := by decide
  have o1 : decide (("anew" : Str) = "over") = false := by decide
  have o2 : decide (("old" : Str) = "over") = false := by decide
  have o4 : decide (("left" : Str) = "over") = false := by decide
  have o5 : decide (("firm" : Str) = "over") = false := by decide
  have o8 : decide (("over" : Str) = "over") = true := by decide
  unfold servB tillF moreF letW
  by_cases e1 : (r.anew || w.anew) = true
  · rw [if_pos e1, if_pos e1, if_pos e1, f1, o1]
    cases al <;> simp <;> omega
  rw [if_neg e1, if_neg e1, if_neg e1]
  unfold let2 overM cutM
  have key : (decide (let3 r w age ∈ (["fresh", "let", "worn"] : List Str)) || (al && (decide (let3 r w age = "over") && decide (age < r.keep + r.alone)))) = decide (age < if al = true then u1 r w else t1 r w) := by
    unfold let3 let4 let5 let6 let7 t1 u1 openB
    by_cases c3 : age + w.left < r.keep
    · rw [if_pos (decide_eq_true c3), f3, Bool.true_or, eq_comm, decide_eq_true_iff]
      have hm : ∀ i j, i ≤ mxI i j ∧ j ≤ mxI i j := fun i j => by
        unfold mxI
        split <;> omega
      have m1 := hm w.worn r.worn
      have m2 := hm (r.keep + mxI w.worn r.worn) (r.keep + r.alone)
      by_cases ob : (decide (w.left = 0) && (!r.strict && !w.firm)) = true
      · rw [if_pos ob, if_pos ob]
        have l0 : w.left = 0 := by
          simp only [Bool.and_eq_true, decide_eq_true_eq] at ob
          exact ob.1
        cases al <;> simp <;> omega
      · rw [if_neg ob, if_neg ob]
        cases al <;> simp <;> omega
    rw [if_neg (fun z => c3 (of_decide_eq_true z))]
    by_cases c4 : w.left > 0
    · rw [if_pos (decide_eq_true c4), f4, o4, decide_eq_false (show ¬ w.left = 0 by omega)]
      cases al <;> simp <;> omega
    rw [if_neg (fun z => c4 (of_decide_eq_true z)), decide_eq_true (show w.left = 0 by omega)]
    by_cases c5 : (r.strict || w.firm) = true
    · have ob : (!r.strict && !w.firm) = false := by
        cases h : r.strict <;> cases h' : w.firm <;> simp_all
      rw [if_pos c5, f5, o5, ob]
      cases al <;> simp <;> omega
    have ob : (!r.strict && !w.firm) = true := by
      cases h : r.strict <;> cases h' : w.firm <;> simp_all
    rw [if_neg c5, ob]
    simp only [Bool.and_self, if_pos]
    by_cases c6 : age < r.keep + w.worn
    · rw [if_pos (decide_eq_true c6), f6, Bool.true_or, eq_comm, decide_eq_true_iff]
      unfold mxI
      cases al <;> simp <;> repeat' (first | omega | split)
    rw [if_neg (fun z => c6 (of_decide_eq_true z))]
    by_cases c7 : age < r.keep + r.worn
    · rw [if_pos (decide_eq_true c7), f7, Bool.true_or, eq_comm, decide_eq_true_iff]
      unfold mxI
      cases al <;> simp <;> repeat' (first | omega | split)
    rw [if_neg (fun z => c7 (of_decide_eq_true z)), f8, o8]
    unfold mxI
    rw [Bool.eq_iff_iff]
    cases al <;> simp <;> repeat' (first | omega | split)
  cases hm : w.atmost with
  | none =>
    dsimp only
    rw [if_neg Bool.false_ne_true]
    exact key
  | some m =>
    dsimp only
    by_cases c : age > m
    · rw [if_pos (decide_eq_true c), f2, o2]
      unfold mnI
      rw [Bool.eq_iff_iff]
      cases al <;> simp <;> repeat' (first | omega | split)
    · rw [if_neg (fun z => c (of_decide_eq_true z)), key]
      unfold mnI
      rw [Bool.eq_iff_iff, decide_eq_true_iff, decide_eq_true_iff]
      cases al
      · rw [if_neg Bool.false_ne_true, if_neg Bool.false_ne_true]
        constructor <;> intro z <;> (try split) <;> (try split at z) <;> omega
      · rw [if_pos rfl, if_pos rfl]
        constructor <;> intro z <;> (try split) <;> (try split at z) <;> omega
end My
namespace My
open PySem PySem.Spec PyProof.Rows L2 TL
section
variable {P : Program} {w : World} {K : PySem.W.Frag} {mg : Str → Option Value} {base : Heap}
def spTill : Sp := fun vs H Q _ => ∃ (m v : Addr) (r : RuleR) (wi : WishR), vs = [.ref m, .ref v] ∧ H m = some (.lst (mR r)) ∧ H v = some (.lst (mW wi)) ∧ ∀ t H', Same H H' → H' t = some (.tup [.int (tillF r wi), .int (moreF r wi)]) → Q (.ref t) H'
theorem ok_law_till (T : Txt K mg) : FnOk P w K mg base CX0 1 T.f_law_till T.fd_law_till ["_law_mine", "_law_wished"] spTill := by
  refine T.d_law_till.F.ok sc_law_till (fun vs H Q E h => ?_) (fun cdv A outer s H vs Q E hr h => ?_)
  · obtain ⟨m, v, r, wi, rfl, _⟩ := h
    rfl
  · obtain ⟨m, v, r, wi, rfl, hm, hv, q⟩ := h
    have gm0 : atI (mR r) 0 = some (.int r.keep) := rfl
    have gm1 : atI (mR r) 1 = some (.int r.worn) := rfl
    have gm2 : atI (mR r) 2 = some (.int r.alone) := rfl
    have gm3 : atI (mR r) 3 = some (.bl r.anew) := rfl
    have gm4 : atI (mR r) 4 = some (.bl r.strict) := rfl
    have gv0 : atI (mW wi) 0 = some (oV wi.atmost) := rfl
    have gv1 : atI (mW wi) 1 = some (.int wi.left) := rfl
    have gv2 : atI (mW wi) 2 = some (.int wi.worn) := rfl
    have gv3 : atI (mW wi) 3 = some (.bl wi.anew) := rfl
    have gv4 : atI (mW wi) 4 = some (.bl wi.firm) := rfl
    refine ⟨_, (pss_cons (ps_if (pt_pure (PW.pt (pw_or (pt_truth (pe_ix ix_list (pv 0) pe_int (fun _ _ => rfl)) (by intro _; rfl)) (pw_or1 (pt_truth (pe_ix ix_list (pv 1) pe_int (fun _ _ => rfl)) (by intro _; rfl))))))
      (pss_one (ps_ret (pe_tup (pa_cons pe_int (pa_cons pe_int pa_nil)))))
      pss_nil)
      (pss_cons (ps_set (i := 2) sc_law_till.nd rfl (.inl rfl) (pe_op op_sub (pe_ix ix_list (pv 0) pe_int (fun _ _ => rfl)) (pe_ix ix_list (pv 1) pe_int (fun _ _ => rfl))))
      (pss_cons (ps_set (i := 3) sc_law_till.nd rfl (.inl rfl) (pv 2))
      (Evl.pss_cut (ps_if (pt_pure (PW.pt (pw_and (pt_cmpR op_eq (pe_ix ix_list (pv 1) pe_int (fun _ _ => rfl)) pe_int (nomark _)) (pw_and (pt_not (pt_truth (pe_ix ix_list (pv 0) pe_int (fun _ _ => rfl)) (by intro _; rfl))) (pw_and1 (pt_not (pt_truth (pe_ix ix_list (pv 1) pe_int (fun _ _ => rfl)) (by intro _; rfl))))))))
      (pss_cons (ps_set (i := 2) sc_law_till.nd rfl (.inl rfl) (pe_op op_add (pe_ix ix_list (pv 0) pe_int (fun _ _ => rfl)) (pe_callB (call_max2 rfl) (by rfl) T.m_max (by decide +kernel) (pa_cons (pe_ix ix_list (pv 1) pe_int (fun _ _ => rfl)) (pa_cons (pe_ix ix_list (pv 0) pe_int (fun _ _ => rfl)) pa_nil)))))
      (pss_one (ps_set (i := 3) sc_law_till.nd rfl (.inl rfl) (pe_callB (call_max2 rfl) (by rfl) T.m_max (by decide +kernel) (pa_cons (pv 2) (pa_cons (pe_op op_add (pe_ix ix_list (pv 0) pe_int (fun _ _ => rfl)) (pe_ix ix_list (pv 0) pe_int (fun _ _ => rfl))) pa_nil))))))
      pss_nil)
      (Evl.pss_cut (ps_if (pt_cmpR op_notN (pe_ix ix_list (pv 1) pe_int (fun _ _ => rfl)) pe_non (nomark _))
      (pss_cons (ps_set (i := 2) sc_law_till.nd rfl (.inl rfl) (pe_callB (call_min2 rfl) (by rfl) T.m_min (by decide +kernel) (pa_cons (pv 2) (pa_cons (pe_op op_add (pe_ix ix_list (pv 1) pe_int (fun _ _ => rfl)) pe_int) pa_nil))))
      (pss_one (ps_set (i := 3) sc_law_till.nd rfl (.inl rfl) (pe_callB (call_min2 rfl) (by rfl) T.m_min (by decide +kernel) (pa_cons (pv 3) (pa_cons (pe_op op_add (pe_ix ix_list (pv 1) pe_int (fun _ _ => rfl)) pe_int) pa_nil))))))
      pss_nil)
      (pss_one (ps_ret (pe_tup (pa_cons (pv 2) (pa_cons (pv 3) pa_nil)))))))))), ?_⟩
    unfold tillF moreF at q
    refine ⟨(r.anew || wi.anew), ?_, ite2 (fun e => ?_) (fun e => ?_)⟩
    · refine ⟨.ref m, rfl, m, _, 3, _, rfl, rfl, SqL.of hm, gm3, _, rfl, ite2 (fun e => ?_) (fun e => ?_)⟩
      · rw [e]
        exact ⟨rfl, rfl⟩
      · exact ⟨.ref v, rfl, v, _, 3, _, rfl, rfl, SqL.of hv, gv3, _, rfl, by rw [show r.anew = false by simpa using e]; rfl, rfl⟩
    · rw [if_pos e, if_pos e] at q
      exact ⟨(by show 2 ≤ sizeLine; decide), fun t ht => q t _ (same_upd ht) upd_same⟩
    rw [if_neg e, if_neg e] at q
    refine ⟨.ref m, rfl, m, _, 0, _, rfl, rfl, SqL.of hm, gm0, .ref v, rfl, v, _, 1, _, rfl, rfl, SqL.of hv, gv1, _, _, rfl, rfl, _, rfl, ?_⟩
    refine ⟨fun σ H' => σ = [some (.ref m), some (.ref v), some (.int (t1 r wi)), some (.int (u1 r wi))] ∧ H' = H, ?_, ?_⟩
    · unfold t1 u1
      refine ⟨openB r wi, ?_, ite2 (fun e => ?_) (fun e => ?_)⟩
      · unfold openB
        refine ⟨.ref v, rfl, v, _, 1, _, rfl, rfl, SqL.of hv, gv1, rfl, _, rfl, ite2 (fun e => ?_) (fun e => ?_)⟩
        · have e' : wi.left = 0 := V.int.inj (of_decide_eq_true e)
          rw [decide_eq_true e', Bool.true_and]
          refine ⟨.ref m, rfl, m, _, 4, _, rfl, rfl, SqL.of hm, gm4, _, rfl, ?_⟩
          show if (!r.strict) = true then _ else _
          refine ite2 (fun e2 => ?_) (fun e2 => ?_)
          · rw [e2, Bool.true_and]
            exact ⟨.ref v, rfl, v, _, 4, _, rfl, rfl, SqL.of hv, gv4, _, rfl, rfl, rfl⟩
          · rw [show (!r.strict) = false by simpa using e2]
            exact ⟨rfl, rfl⟩
        · rw [decide_eq_false (fun z => e (decide_eq_true (congrArg V.int z)))]
          exact ⟨rfl, rfl⟩
      · rw [if_pos e, if_pos e]
        exact ⟨.ref m, rfl, m, _, 0, _, rfl, rfl, SqL.of hm, gm0, .ref v, rfl, v, _, 2, _, rfl, rfl, SqL.of hv, gv2, .ref m, rfl, m, _, 1, _, rfl, rfl, SqL.of hm, gm1, _, _, rfl, _, _, rfl, rfl, _, rfl, .ref m, rfl, m, _, 0, _, rfl, rfl, SqL.of hm, gm0, .ref m, rfl, m, _, 2, _, rfl, rfl, SqL.of hm, gm2, _, _, rfl, rfl, _, _, rfl, rfl, rfl⟩
      · rw [if_neg e, if_neg e]
        exact ⟨rfl, rfl⟩
    rintro σ H' ⟨rfl, rfl⟩
    unfold cutM at q
    refine ⟨fun σ H'' => ∃ a b : Int, σ = [some (.ref m), some (.ref v), some (.int a), some (.int b)] ∧ H'' = H' ∧ ∀ t H2, Same H' H2 → H2 t = some (.tup [.int a, .int b]) → Q (.ref t) H2, ?_, ?_⟩
    · refine ⟨.ref v, rfl, v, _, 0, _, rfl, rfl, SqL.of hv, gv0, rfl, ?_⟩
      cases ham : wi.atmost with
      | none =>
        rw [ham] at q
        exact ⟨false, rfl, _, _, rfl, rfl, q⟩
      | some am =>
        rw [ham] at q gv0
        exact ⟨true, rfl, _, rfl, .ref v, rfl, v, _, 0, _, rfl, rfl, SqL.of hv, gv0, _, _, rfl, rfl, _, _, rfl, _, rfl, .ref v, rfl, v, _, 0, _, rfl, rfl, SqL.of hv, gv0, _, _, rfl, rfl, _, _, rfl, _, _, rfl, rfl, q⟩
    rintro σ H'' ⟨a, b, rfl, rfl, q⟩
    exact ⟨_, rfl, _, rfl, (by show 2 ≤ sizeLine; decide), fun t ht => q t _ (same_upd ht) upd_same⟩
end
end My
namespace My
open PySem PySem.Spec PyProof.Rows L2 TL
section
variable {P : Program} {w : World} {K : PySem.W.Frag} {mg : Str → Option Value} {base : Heap}
def rN : List Str := ["keep", "worn", "alone", "anew", "strict", "never"]
def wN : List Str := ["atmost", "left", "worn", "anew", "firm", "kept"]
theorem rule_row {r : RuleR} (h : gR r) : ruleOf (dsV rN (mR r)) = r := by
  obtain ⟨k, w, a, b1, b2, b3, b4, b5⟩ := r
  have h1 : b2 = false := h.own
  have h2 : b3 = false := h.common
  subst h1
  subst h2
  cases b1 <;> cases b4 <;> cases b5 <;> rfl
theorem rule_suits (r : RuleR) : ∀ d ∈ dsV rN (mR r), suitB rNs rTs d = true := by
  obtain ⟨k, w, a, b1, b2, b3, b4, b5⟩ := r
  have : (dsV rN (mR ⟨k, w, a, b1, b2, b3, b4, b5⟩)).all (suitB rNs rTs) = true := by
    cases b1 <;> cases b4 <;> cases b5 <;> rfl
  exact List.all_eq_true.mp this
theorem wish_row (r : WishR) : wishOf (dsV wN (mW r)) = r := by
  obtain ⟨a, l, w, b1, b2, b3⟩ := r
  cases a <;> cases b1 <;> cases b2 <;> cases b3 <;> rfl
theorem wish_suits (r : WishR) : ∀ d ∈ dsV wN (mW r), suitB wNs wTs d = true := by
  obtain ⟨a, l, w, b1, b2, b3⟩ := r
  have : (dsV wN (mW ⟨a, l, w, b1, b2, b3⟩)).all (suitB wNs wTs) = true := by
    cases a <;> cases b1 <;> cases b2 <;> cases b3 <;> rfl
  exact List.all_eq_true.mp this
theorem ok_mR {r : RuleR} (h : gR r) : ∀ v ∈ mR r, okV v := fun v hv => by
  simp only [mR, List.mem_cons, List.not_mem_nil, or_false] at hv
  rcases hv with rfl | rfl | rfl | rfl | rfl | rfl
  · exact .inr (.inr ⟨_, rfl, h.keep.1, h.keep.2⟩)
  · exact .inr (.inr ⟨_, rfl, h.worn.1, h.worn.2⟩)
  · exact .inr (.inr ⟨_, rfl, h.alone.1, h.alone.2⟩)
  · exact .inr (.inl ⟨_, rfl⟩)
  · exact .inr (.inl ⟨_, rfl⟩)
  · exact .inr (.inl ⟨_, rfl⟩)
theorem ok_mW {r : WishR} (h : gW r) : ∀ v ∈ mW r, okV v := fun v hv => by
  simp only [mW, List.mem_cons, List.not_mem_nil, or_false] at hv
  rcases hv with rfl | rfl | rfl | rfl | rfl | rfl
  · cases e : r.atmost with
    | none => exact .inl rfl
    | some n => exact .inr (.inr ⟨_, rfl, (h.atmost n e).1, (h.atmost n e).2⟩)
  · exact .inr (.inr ⟨_, rfl, h.left.1, h.left.2⟩)
  · exact .inr (.inr ⟨_, rfl, h.worn.1, h.worn.2⟩)
  · exact .inr (.inl ⟨_, rfl⟩)
  · exact .inr (.inl ⟨_, rfl⟩)
  · exact .inr (.inl ⟨_, rfl⟩)
def spAges : Sp := fun vs H Q _ => ∃ (W m v : Addr) (r : RuleR) (wi : WishR), vs = [.ref W, .ref m, .ref v] ∧ IsW H W ∧ W ≠ m ∧ W ≠ v ∧ H m = some (.lst (mR r)) ∧ H v = some (.lst (mW wi)) ∧ ∀ p (as : List Int) H', Wx W H H' → H' p = some (.lst (as.map V.int)) → as.length ≤ 40 → (∀ a ∈ as, 0 ≤ a) → Q (.ref p) H'
theorem ok_law_ages (T : Txt K mg) : FnOk P w K mg base CX0 2 T.f_law_ages T.fd_law_ages ["_law_well_here", "_law_mine", "_law_wished"] spAges := by
  refine T.d_law_ages.F.ok sc_law_ages (fun vs H Q E h => ?_) (fun cdv A outer s H vs Q E hr h => ?_)
  · obtain ⟨W, m, v, r, wi, rfl, _⟩ := h
    rfl
  · obtain ⟨W, m, v, r, wi, rfl, hI, nWm, nWv, hm, hv, q⟩ := h
    have gm0 : atI (mR r) 0 = some (.int r.keep) := rfl
    have gm1 : atI (mR r) 1 = some (.int r.worn) := rfl
    have gm2 : atI (mR r) 2 = some (.int r.alone) := rfl
    have gm3 : atI (mR r) 3 = some (.bl r.anew) := rfl
    have gm4 : atI (mR r) 4 = some (.bl r.strict) := rfl
    have gv0 : atI (mW wi) 0 = some (oV wi.atmost) := rfl
    have gv1 : atI (mW wi) 1 = some (.int wi.left) := rfl
    have gv2 : atI (mW wi) 2 = some (.int wi.worn) := rfl
    have gv3 : atI (mW wi) 3 = some (.bl wi.anew) := rfl
    have gv4 : atI (mW wi) 4 = some (.bl wi.firm) := rfl
    refine ⟨_, (pss_cons (ps_set (i := 3) sc_law_ages.nd rfl (.inl rfl) (pe_lst (pa_cons (pe_ix ix_list (pv 1) pe_int (fun _ _ => rfl)) (pa_cons (pe_op op_add (pe_ix ix_list (pv 1) pe_int (fun _ _ => rfl)) (pe_ix ix_list (pv 1) pe_int (fun _ _ => rfl))) (pa_cons (pe_op op_add (pe_ix ix_list (pv 1) pe_int (fun _ _ => rfl)) (pe_ix ix_list (pv 1) pe_int (fun _ _ => rfl))) (pa_cons (pe_op op_add (pe_ix ix_list (pv 1) pe_int (fun _ _ => rfl)) (pe_ix ix_list (pv 2) pe_int (fun _ _ => rfl))) (pa_cons (pe_op op_sub (pe_ix ix_list (pv 1) pe_int (fun _ _ => rfl)) (pe_ix ix_list (pv 2) pe_int (fun _ _ => rfl))) (pa_cons (pe_ix ix_list (pv 1) pe_int (fun _ _ => rfl)) pa_nil))))))))
      (pss_cons (ps_set (i := 3) sc_law_ages.nd rfl (.inl rfl) (pe_op op_cat (pv 3) (pe_callTy call_list_of (by rfl) T.m_list (by decide +kernel) (pa_cons (pe_call (ok_law_till T) (hr.mono (by decide)) (by rfl) T.d_law_till.g T.d_law_till.F.kp T.d_law_till.b .nil pass0 (pa_cons (pv 1) (pa_cons (pv 2) pa_nil))) pa_nil))))
      (Evl.pss_cut (ps_if (pt_cmpR op_notN (pe_ix ix_list (pv 2) pe_int (fun _ _ => rfl)) pe_non (nomark _))
      (pss_one (ps_expr (pe_bm PySem.F.plainAttrs_list PySem.F.slot_list_append PySem.F.type_list_append mt_append (pv 3) (pa_cons (pe_ix ix_list (pv 2) pe_int (fun _ _ => rfl)) pa_nil))))
      pss_nil)
      (pss_cons (ps_set (i := 4) sc_law_ages.nd rfl (.inl rfl) (pe_lst (pa_cons pe_int (pa_cons (pe_call (ok_law_draw T) (hr.mono (by decide)) (by rfl) T.d_law_draw.g T.d_law_draw.F.kp T.d_law_draw.b .nil pass0 (pa_cons (pv 0) (pa_cons pe_int pa_nil))) pa_nil))))
      (pss_cons (ps_for PassesOwn.never rfl (pi_list (pv 3)) (pg_name (i := 5) sc_law_ages.nd rfl (.inl rfl))
      (pss_one (ps_set (i := 4) sc_law_ages.nd rfl (.inl rfl) (pe_op op_cat (pv 4) (pe_lc (own := [("_law_age", 6)]) (g := gName 6) (by rfl) sc_law_ages.nd (pi_list (pe_lst (pa_cons (pe_op op_sub (pv 5) pe_int) (pa_cons (pv 5) (pa_cons (pe_op op_add (pv 5) pe_int) pa_nil))))) (blkOk_by (own := [("_law_age", 6)]) (N := ["_law_well_here", "_law_mine", "_law_wished", "_law_ends", "_law_found", "_law_end", "_law_age"]) (sc := defScope s_law_ages) (by decide +kernel)) (fun _ _ _ _ _ => (pg_name (i := 6) sc_law_ages.nd rfl (Or.inl rfl))) (fun _ _ _ _ _ => (pts_one (pt_cmpR op_ge (pv 6) pe_int (nomark _)))) (fun _ _ _ _ _ => (pv 6)))))))
      (pss_one (ps_ret (pv 4)))))))), ?_⟩
    refine ⟨.ref m, rfl, m, _, 0, _, rfl, rfl, SqL.of hm, gm0, .ref m, rfl, m, _, 0, _, rfl, rfl, SqL.of hm, gm0, .ref m, rfl, m, _, 1, _, rfl, rfl, SqL.of hm, gm1, _, _, rfl, rfl, .ref m, rfl, m, _, 0, _, rfl, rfl, SqL.of hm, gm0, .ref m, rfl, m, _, 2, _, rfl, rfl, SqL.of hm, gm2, _, _, rfl, rfl, .ref m, rfl, m, _, 0, _, rfl, rfl, SqL.of hm, gm0, .ref v, rfl, v, _, 2, _, rfl, rfl, SqL.of hv, gv2, _, _, rfl, rfl, .ref m, rfl, m, _, 0, _, rfl, rfl, SqL.of hm, gm0, .ref v, rfl, v, _, 1, _, rfl, rfl, SqL.of hv, gv1, _, _, rfl, rfl, .ref m, rfl, m, _, 2, _, rfl, rfl, SqL.of hm, gm2, (by show 6 ≤ sizeLine; decide), fun p1 h1 => ?_⟩
    have s1 := same_upd (o := .lst (([r.keep, r.keep + r.worn, r.keep + r.alone, r.keep + wi.worn, r.keep - wi.left, r.alone] : List Int).map V.int)) h1
    refine ⟨.ref p1, rfl, .ref m, rfl, .ref v, rfl, m, v, r, wi, rfl, s1 _ _ hm, s1 _ _ hv, fun t H2 s2 et => ?_⟩
    refine ⟨t, _, rfl, .inr (SqT.of et), fun p2 h2 => ?_⟩
    have s3 := same_upd (o := .lst (([tillF r wi, moreF r wi] : List Int).map V.int)) h2
    have t3 := (s1.trans s2).trans s3
    refine ⟨p1, p2, _, _, rfl, rfl, (s2.trans s3) _ _ upd_same, upd_same, (by show 8 ≤ sizeLine; decide), fun p3 h3 => ?_⟩
    have s4 := same_upd (o := .lst (([r.keep, r.keep + r.worn, r.keep + r.alone, r.keep + wi.worn, r.keep - wi.left, r.alone, tillF r wi, moreF r wi] : List Int).map V.int)) h3
    have t4 := t3.trans s4
    have hv4 := t4 _ _ hv
    have x4 := (Wx.refl hI).same t4
    have nW3 : W ≠ p3 := hI.ne (t3.free h3)
    refine ⟨fun σ H' => ∃ (till : List Int), σ = [some (.ref W), some (.ref m), some (.ref v), some (.ref p3), none, none, none] ∧ Wx W H H' ∧ H' p3 = some (.lst (till.map V.int)) ∧ till.length ≤ 9, ?_, ?_⟩
    · refine ⟨.ref v, rfl, v, _, 0, _, rfl, rfl, SqL.of hv4, gv0, rfl, ?_⟩
      cases ham : wi.atmost with
      | none => exact ⟨false, rfl, [r.keep, r.keep + r.worn, r.keep + r.alone, r.keep + wi.worn, r.keep - wi.left, r.alone, tillF r wi, moreF r wi], rfl, x4, upd_same, (by show 8 ≤ 9; decide)⟩
      | some am =>
        rw [ham] at gv0
        exact ⟨true, rfl, .ref p3, rfl, .inl ⟨rfl, _, SqL.of upd_same⟩, .ref v, rfl, v, _, 0, _, rfl, rfl, SqL.of hv4, gv0, p3, _, _, rfl, rfl, upd_same, (by show 8 < sizeLine; decide), [r.keep, r.keep + r.worn, r.keep + r.alone, r.keep + wi.worn, r.keep - wi.left, r.alone, tillF r wi, moreF r wi, am], rfl, x4.mut (t3.free h3) nW3, upd_same, Nat.le_refl 9⟩
    rintro σ H4 ⟨till, rfl, x4, e4, l4⟩
    refine ⟨.ref W, rfl, W, 150, rfl, by decide, by decide, x4.well, fun r5 H5 r50 _ x5 => ⟨(by show 2 ≤ sizeLine; decide), fun p6 h6 => ?_⟩⟩
    have e45 := x5.keep _ _ nW3.symm e4
    have s6 := same_upd (o := .lst (([0, r5] : List Int).map V.int)) h6
    have x6 := (x4.trans x5).same s6
    refine ⟨.ref p3, rfl, p3, rfl, ⟨_, SqL.of (s6 _ _ e45)⟩, for_list (K := K) (a := p3) (xs := till.map V.int) (fun i σ H' => Wx W H H' ∧ H' p3 = some (.lst (till.map V.int)) ∧ ∃ (pf : Addr) (as : List Int) (y : Option V), H' pf = some (.lst (as.map V.int)) ∧ as.length ≤ 2 + 3 * i ∧ (∀ a ∈ as, 0 ≤ a) ∧ σ = [some (.ref W), some (.ref m), some (.ref v), some (.ref p3), some (.ref pf), y, none])
      ⟨x6, s6 _ _ e45, p6, [0, r5], none, upd_same, Nat.le_refl _, (fun a ha => by
        simp only [List.mem_cons, List.not_mem_nil, or_false] at ha
        rcases ha with rfl | rfl
        · decide
        · exact r50), rfl⟩ (fun i σ H' _ pv => SqL.of pv.2.1) ?_ ?_⟩
    · rintro i x σ H7 hi ⟨x7, e7, pf, as, y, ef, la, ha, rfl⟩
      obtain ⟨e, rfl⟩ := int_at hi
      have hil : i < till.length := by
        have := (List.getElem?_eq_some_iff.mp hi).1
        rwa [List.length_map] at this
      refine ⟨.ref pf, rfl, .int e, rfl, e, 1, rfl, rfl, .int e, rfl, .int e, rfl, e, 1, rfl, rfl, (by show 3 ≤ sizeLine; decide), fun l hl => ?_⟩
      have s8 := same_upd (o := .lst (([e - 1, e, e + 1] : List Int).map V.int)) hl
      refine ⟨l, rfl, ⟨_, SqL.of upd_same⟩, fun D hD => ?_⟩
      refine lc_list (K := K) (a := l) (xs := ([e - 1, e, e + 1] : List Int).map V.int) (fun j H' => Same (upd H7 l (.lst (([e - 1, e, e + 1] : List Int).map V.int))) H' ∧ ∃ zs : List Int, H' D = some (.lst (zs.map V.int)) ∧ zs.length ≤ j ∧ ∀ a ∈ zs, 0 ≤ a) ⟨same_upd hD, [], upd_same, Nat.le_refl _, fun _ z => nomatch z⟩ (fun j H' _ pv => SqL.of (pv.1 _ _ upd_same)) ?_ ?_
      · rintro j v H9 hj ⟨s9, zs, eD, lz, hz⟩
        obtain ⟨n, rfl⟩ := int_at hj
        have hjl : j < 3 := (List.getElem?_eq_some_iff.mp hj).1
        refine ⟨rfl, .int n, rfl, n, 0, rfl, rfl, _, rfl, ite2 (fun en => ?_) (fun _ => ?_)⟩
        · refine ⟨.int n, rfl, _, eD, by rw [List.length_map]; exact szlt (by omega), same_mut s9 hD, zs ++ [n], by rw [upd_same, List.map_append]; rfl, by rw [List.length_append]; show _ + 1 ≤ _; omega, fun a ha' => ?_⟩
          rcases List.mem_append.mp ha' with h | h
          · exact hz a h
          · rw [List.mem_singleton.mp h]
            exact of_decide_eq_true en
        · exact ⟨s9, zs, eD, by omega, hz⟩
      · rintro H9 ⟨s9, zs, eD, lz, hz⟩
        have lz3 : zs.length ≤ 3 := lz
        have t9 := s8.trans s9
        refine ⟨pf, D, _, _, rfl, rfl, t9 _ _ ef, eD, by rw [List.length_map, List.length_map]; exact szl (by omega), fun p10 h10 => ?_⟩
        have s10 := same_upd (o := .lst (as.map V.int ++ zs.map V.int)) h10
        have t10 := t9.trans s10
        refine ⟨x7.same t10, t10 _ _ e7, p10, as ++ zs, _, by rw [upd_same, List.map_append], by rw [List.length_append]; omega, fun a ha' => ?_, rfl⟩
        rcases List.mem_append.mp ha' with h | h
        · exact ha a h
        · exact hz a h
    · rintro σ H7 ⟨x7, e7, pf, as, y, ef, la, ha, rfl⟩
      rw [List.length_map] at la
      exact ⟨.ref pf, rfl, q pf as H7 x7 ef (by omega) ha⟩
end
end My
namespace My
open PySem PySem.Spec PyProof.Rows L2 TL
section
variable {P : Program} {w : World} {K : PySem.W.Frag} {mg : Str → Option Value} {base : Heap}
theorem ok_law (T : Txt K mg) : FnOk P w K mg base CX0 6 T.f_law T.fd_law ["_law_script"] (spLaw K) := by
  refine T.d_law.F.ok sc_law (fun vs H Q E h => ?_) (fun cdv A outer s H vs Q E hr h => ?_)
  · obtain ⟨a, ns, rfl, _⟩ := h
    rfl
  · obtain ⟨a, ns, rfl, hS, hlen, q⟩ := h
    refine ⟨_, (pss_cons (ps_for PassesOwn.never rfl (pi_list (pe_op op_cat (pe_slice sl_list (pv 0) po_none (po_some pe_int)) (pe_lst (pa_cons pe_int (pa_cons pe_int (pa_cons pe_int pa_nil)))))) (pg_name (i := 1) sc_law.nd rfl (.inl rfl))
      (pss_cons (ps_set (i := 2) sc_law.nd rfl (.inl rfl) (pe_call (ok_law_well T) (hr.mono (by decide)) (by rfl) T.d_law_well.g T.d_law_well.F.kp T.d_law_well.b .nil pass0 (pa_cons (pv 1) pa_nil)))
      (pss_cons (ps_set (i := 3) sc_law.nd rfl (.inl rfl) (pe_call (ok_law_rule_row T) (hr.mono (by decide)) (by rfl) T.d_law_rule_row.g T.d_law_rule_row.F.kp T.d_law_rule_row.b .nil pass0 (pa_cons (pv 2) pa_nil)))
      (pss_cons (ps_set (i := 4) sc_law.nd rfl (.inl rfl) (pe_call (ok_law_wish_row T) (hr.mono (by decide)) (by rfl) T.d_law_wish_row.g T.d_law_wish_row.F.kp T.d_law_wish_row.b .nil pass0 (pa_cons (pv 2) pa_nil)))
      (pss_cons (ps_set (i := 5) sc_law.nd rfl (.inl rfl) (pe_call (ok_read_rule T) (hr.mono (by decide)) (by rfl) T.d_read_rule.g T.d_read_rule.F.kp T.d_read_rule.b .nil pass0 (pa_cons (pe_call (ok_law_words T) (hr.mono (by decide)) (by rfl) T.d_law_words.g T.d_law_words.F.kp T.d_law_words.b .nil pass0 (pa_cons (pe_lst (pa_cons pe_str (pa_cons pe_str (pa_cons pe_str (pa_cons pe_str (pa_cons pe_str (pa_cons pe_str pa_nil))))))) (pa_cons (pv 3) pa_nil))) pa_nil)))
      (pss_cons (ps_set (i := 6) sc_law.nd rfl (.inl rfl) (pe_call (ok_read_wish T) (hr.mono (by decide)) (by rfl) T.d_read_wish.g T.d_read_wish.F.kp T.d_read_wish.b .nil pass0 (pa_cons (pe_call (ok_law_words T) (hr.mono (by decide)) (by rfl) T.d_law_words.g T.d_law_words.F.kp T.d_law_words.b .nil pass0 (pa_cons (pe_lst (pa_cons pe_str (pa_cons pe_str (pa_cons pe_str (pa_cons pe_str (pa_cons pe_str (pa_cons pe_str pa_nil))))))) (pa_cons (pv 4) pa_nil))) pa_nil)))
      (pss_cons (ps_asg (pe_call (ok_law_till T) (hr.mono (by decide)) (by rfl) T.d_law_till.g T.d_law_till.F.kp T.d_law_till.b .nil pass0 (pa_cons (pv 3) (pa_cons (pv 4) pa_nil))) (pg_tup rfl (pgs_cons (pg_name (i := 7) sc_law.nd rfl (.inl rfl)) (pgs_cons (pg_name (i := 8) sc_law.nd rfl (.inl rfl)) pgs_nil))))
      (pss_one (ps_for PassesOwn.never rfl (pi_list (pe_call (ok_law_ages T) (hr.mono (by decide)) (by rfl) T.d_law_ages.g T.d_law_ages.F.kp T.d_law_ages.b .nil pass0 (pa_cons (pv 2) (pa_cons (pv 3) (pa_cons (pv 4) pa_nil))))) (pg_name (i := 9) sc_law.nd rfl (.inl rfl))
      (pss_cons (ps_set (i := 10) sc_law.nd rfl (.inl rfl) (pe_lst (pa_cons (pe_call (ok_serves T) (hr.mono (by decide)) (by rfl) T.d_serves.g T.d_serves.F.kp T.kb_3.choose_spec.2 T.kb_3.choose_spec.1 pass0 (pa_cons (pv 5) (pa_cons (pv 6) (pa_cons (pv 9) pa_nil)))) (pa_cons (pe_callN (ok_serves T) (hr.mono (by decide)) (by rfl) T.d_serves.g T.d_serves.F.kp T.kb_2.choose_spec pass0 (pa_cons (pv 5) (pa_cons (pv 6) (pa_cons (pv 9) pa_nil))) (pk_cons pe_bl pk_nil)) (pa_cons (pe_callN (ok_serves T) (hr.mono (by decide)) (by rfl) T.d_serves.g T.d_serves.F.kp T.kb_2.choose_spec pass0 (pa_cons (pv 5) (pa_cons (pv 6) (pa_cons (pv 9) pa_nil))) (pk_cons pe_bl pk_nil)) pa_nil)))))
      (pss_cons (ps_if (pt_cmpR (op_neD hr.units) (pe_lc (own := [("_law_one", 11)]) (g := gName 11) (by rfl) sc_law.nd (pi_list (pv 10)) (blkOk_by (own := [("_law_one", 11)]) (N := ["_law_script", "_law_cell", "_law_well_here", "_law_mine", "_law_wished", "_law_rule", "_law_wish", "_law_till_here", "_law_more", "_law_age", "_law_found", "_law_one"]) (sc := defScope s_law) (by decide +kernel)) (fun _ _ _ _ _ => (pg_name (i := 11) sc_law.nd rfl (Or.inl rfl))) (fun _ _ _ _ _ => (pts_one (pt_pure (PW.pt (pw_and (pt_cmpR op_notA (pv 11) pe_bl (nomark _)) (pw_and1 (pt_cmpR op_notA (pv 11) pe_bl (nomark _)))))))) (fun _ _ _ _ _ => (pv 11))) (pe_lst pa_nil) (nomark _))
      (pss_one (ps_ret pe_bl))
      pss_nil)
      (pss_one (ps_if (pt_cmpR (op_neD hr.units) (pv 10) (pe_lst (pa_cons (pe_cmpR op_lt (pv 9) (pv 7) (nomark _)) (pa_cons (pe_cmpR op_lt (pv 9) (pv 7) (nomark _)) (pa_cons (pe_cmpR op_lt (pv 9) (pv 8) (nomark _)) pa_nil)))) (nomark _))
      (pss_one (ps_ret pe_bl))
      pss_nil)))))))))))))
      (pss_one (ps_ret pe_bl))), ?_⟩
    obtain ⟨ms, em, lm⟩ := cutV_map V.int ns none (some 20)
    refine ⟨.ref a, rfl, 20, rfl, a, _, rfl, hS, fun p1 h1 => ⟨(by show 3 ≤ sizeLine; decide), fun p2 h2 => ?_⟩⟩
    refine ⟨p1, p2, _, _, rfl, rfl, (same_upd h2) _ _ upd_same, upd_same, by rw [em, List.length_map]; exact szl (by show ms.length + 3 ≤ _; omega), fun p3 h3 => ?_⟩
    have ec : cutV (ns.map V.int) none (some 20) ++ [.int 0, .int 4, .int 13] = (ms ++ [0, 4, 13]).map V.int := by
      rw [em, List.map_append]
      rfl
    rw [ec]
    refine ⟨p3, rfl, ⟨_, SqL.of upd_same⟩, for_list (K := K) (a := p3) (xs := (ms ++ [0, 4, 13]).map V.int) (fun i σ H' => H' p3 = some (.lst ((ms ++ [0, 4, 13]).map V.int)) ∧ ∃ y1 y2 y3 y4 y5 y6 y7 y8 y9 y10, σ = [some (.ref a), y1, y2, y3, y4, y5, y6, y7, y8, y9, y10, none])
      ⟨upd_same, none, none, none, none, none, none, none, none, none, none, rfl⟩ (fun i σ H' _ pv => SqL.of pv.1) ?_ ?_⟩
    · rintro i x σ H0 hx ⟨e30, y1, y2, y3, y4, y5, y6, y7, y8, y9, y10, rfl⟩
      obtain ⟨n, rfl⟩ := int_at hx
      refine ⟨.int n, rfl, n, rfl, fun W wa wb wc hW => ?_⟩
      have hI0 : IsW (upd H0 W (W3 wa wb wc)) W := ⟨wa, wb, wc, upd_same⟩
      have nWp : p3 ≠ W := ne_of_none e30 hW
      have e31 : (upd H0 W (W3 wa wb wc)) p3 = some (.lst ((ms ++ [0, 4, 13]).map V.int)) := (same_upd hW) _ _ e30
      refine ⟨.ref W, rfl, W, rfl, hI0, fun m r H1 nm x1 em1 gr => ?_⟩
      have nWm : W ≠ m := fun z => by
        rw [← z, upd_same] at nm
        cases nm
      refine ⟨.ref W, rfl, W, rfl, x1.well, fun v wi H2 nv x2 ev gw => ?_⟩
      have nWv : W ≠ v := x1.well.ne nv
      have em2 := x2.keep _ _ nWm.symm em1
      -- the rule
      refine ⟨(by show 6 ≤ sizeLine; decide), fun l1 hl1 => ?_⟩
      have s3 := same_upd (o := .lst (rN.map V.str)) hl1
      refine ⟨.ref m, rfl, l1, m, rN, mR r, rfl, upd_same, s3 _ _ em2, rfl, by decide, by decide, ok_mR gr, fun H3 s4 => ?_⟩
      have okr := dsV_ok (ns := rN) (by decide) (ok_mR gr)
      refine ⟨_, _, rfl, words_len okr (Nat.le_trans (dsV_len _ _) (by decide)), words_back okr, rule_suits r, fun p H4 np s5 hp => ?_⟩
      rw [rule_row gr] at hp
      have t5 := (s3.trans s4).trans s5
      -- the wish
      refine ⟨(by show 6 ≤ sizeLine; decide), fun l2 hl2 => ?_⟩
      have s6 := same_upd (o := .lst (wN.map V.str)) hl2
      have ev4 := t5 _ _ ev
      refine ⟨.ref v, rfl, l2, v, wN, mW wi, rfl, upd_same, s6 _ _ ev4, rfl, by decide, by decide, ok_mW gw, fun H5 s7 => ?_⟩
      have okw := dsV_ok (ns := wN) (by decide) (ok_mW gw)
      refine ⟨_, _, rfl, words_len okw (Nat.le_trans (dsV_len _ _) (by decide)), words_back okw, wish_suits wi, fun p' H6 np' s8 hp' => ?_⟩
      rw [wish_row] at hp'
      have s68 := (s6.trans s7).trans s8
      have t8 := t5.trans s68
      have hp6 := hp.mono s68
      have em6 := t8 _ _ em2
      have ev6 := t8 _ _ ev
      have x6 := (x1.trans x2).same t8
      -- until when
      refine ⟨.ref m, rfl, .ref v, rfl, m, v, r, wi, rfl, em6, ev6, fun t H7 s9 et => ?_⟩
      refine ⟨t, _, rfl, SqT.of et, rfl, _, _, rfl, _, _, rfl, rfl, ?_⟩
      have x7 := x6.same s9
      refine ⟨.ref W, rfl, .ref m, rfl, .ref v, rfl, W, m, v, r, wi, rfl, x7.well, nWm, nWv, s9 _ _ em6, s9 _ _ ev6, fun pa as H8 x8 ea la has => ?_⟩
      have hR := (hp6.mono s9).wx x7.well x8
      have hWi := (hp'.mono s9).wx x7.well x8
      have e38 := (x7.trans x8).keep _ _ nWp e31
      refine ⟨pa, rfl, ⟨_, SqL.of ea⟩, for_list (K := K) (a := pa) (xs := as.map V.int) (fun j σ H' => Same H8 H' ∧ ∃ z9 z10, σ = [some (.ref a), some (.int n), some (.ref W), some (.ref m), some (.ref v), some (.ref p), some (.ref p'), some (.int (tillF r wi)), some (.int (moreF r wi)), z9, z10, none])
        ⟨Same.refl _, y9, y10, rfl⟩ (fun j σ H' _ pv => SqL.of (pv.1 _ _ ea)) ?_ ?_⟩
      · rintro j u σ H9 hj ⟨s10, z9, z10, rfl⟩
        obtain ⟨age, rfl⟩ := int_at hj
        have ain : age ∈ as := by
          obtain ⟨y, hy, e⟩ := List.mem_map.mp (List.mem_of_getElem? hj)
          cases e
          exact hy
        have sa := fun al => serv_all r wi age (has age ain) gw.left.1 gw.worn.1 al
        have hR9 := hR.mono s10
        have hW9 := hWi.mono s10
        refine ⟨.ref p, rfl, .ref p', rfl, .int age, rfl, p, p', r, wi, age, false, rfl, hR9, hW9, ?_⟩
        refine ⟨.ref p, rfl, .ref p', rfl, .int age, rfl, rfl, rfl, p, p', r, wi, age, false, rfl, hR9, hW9, ?_⟩
        refine ⟨.ref p, rfl, .ref p', rfl, .int age, rfl, rfl, rfl, p, p', r, wi, age, true, rfl, hR9, hW9, ?_⟩
        rw [sa false, sa true, if_neg Bool.false_ne_true, if_pos rfl]
        refine ⟨(by show 3 ≤ sizeLine; decide), fun f hf => ?_⟩
        have s11 := same_upd (o := .lst (([decide (age < tillF r wi), decide (age < tillF r wi), decide (age < moreF r wi)] : List Bool).map V.bl)) hf
        have ef : (upd H9 f (.lst (([decide (age < tillF r wi), decide (age < tillF r wi), decide (age < moreF r wi)] : List Bool).map V.bl))) f = _ := upd_same
        refine ⟨.ref f, rfl, f, rfl, ⟨_, SqL.of ef⟩, fun D hD => ?_⟩
        refine lc_list (K := K) (a := f) (xs := ([decide (age < tillF r wi), decide (age < tillF r wi), decide (age < moreF r wi)] : List Bool).map V.bl) (fun i H' => Same (upd H9 f (.lst (([decide (age < tillF r wi), decide (age < tillF r wi), decide (age < moreF r wi)] : List Bool).map V.bl))) H' ∧ H' D = some (.lst [])) ⟨same_upd hD, upd_same⟩ (fun i H' _ pv => SqL.of (pv.1 _ _ ef)) ?_ ?_
        · rintro i x H' hi ⟨s, eD⟩
          obtain ⟨b, hb, rfl⟩ := List.mem_map.mp (List.mem_of_getElem? hi)
          refine ⟨rfl, false, ?_, s, eD⟩
          cases b with
          | true => exact ⟨_, rfl, true, rfl, false, rfl, rfl, rfl⟩
          | false => exact ⟨_, rfl, true, rfl, true, rfl, _, rfl, false, rfl, false, rfl, rfl, rfl⟩
        rintro H10 ⟨s12, eD⟩
        refine ⟨Nat.zero_le _, fun e1 he1 => ?_⟩
        have s13 := same_upd (o := .lst []) he1
        refine ne_same (d := .list []) (.lst (SqL.of (s13 _ _ eD)) .nil) (.lst (SqL.of upd_same) .nil) (by decide) ⟨false, rfl, ?_⟩
        have t13 := s12.trans s13
        refine ⟨.ref f, rfl, .int age, rfl, _, rfl, _, _, rfl, rfl, .int age, rfl, _, rfl, _, _, rfl, rfl, .int age, rfl, _, rfl, _, _, rfl, rfl, (by show 3 ≤ sizeLine; decide), fun e2 he2 => ?_⟩
        have s14 := same_upd (o := .lst (([decide (age < tillF r wi), decide (age < tillF r wi), decide (age < moreF r wi)] : List Bool).map V.bl)) he2
        refine ne_same (d := .list (([decide (age < tillF r wi), decide (age < tillF r wi), decide (age < moreF r wi)] : List Bool).map PyData.bool)) (.lst (SqL.of ((t13.trans s14) _ _ ef)) (dp_bools _)) (.lst (SqL.of upd_same) (dp_bools [decide (age < tillF r wi), decide (age < tillF r wi), decide (age < moreF r wi)])) (shaped_bools _) ⟨false, rfl, ?_⟩
        exact ⟨s10.trans (s11.trans (t13.trans s14)), _, _, rfl⟩
      · rintro σ H9 ⟨s10, z9, z10, rfl⟩
        exact ⟨s10 _ _ e38, _, _, _, _, _, _, _, _, _, _, rfl⟩
    · rintro σ H1 ⟨e3, y1, y2, y3, y4, y5, y6, y7, y8, y9, y10, rfl⟩
      exact q _
end
end My
namespace My
open PySem PySem.Spec PyProof.Rows L2 TL
theorem all_mk {l : PySem.W.OpenLaw} {w : World} {K : PySem.W.Frag} {h : Heap} {mg : Str → Option Value} {fa : Addr} (X : K.In h) (G : h.Ns mainGlobals mg) (hfa : mg "law" = some (.ref fa))
    {C_Rule : Addr} (aC_Rule : PySem.W.nsIn K mainGlobals "Rule" = some (some (.ref C_Rule))) (pg_Rule : PySem.W.plainGet K C_Rule Str.empty = true) (hd_Rule : PySem.W.hasDictIn K C_Rule = true) (po_Rule : PySem.W.plainOver K C_Rule = true) (sa_Rule : PySem.W.findIn K (.ref C_Rule) "__setattr__" = some (some (.builtin "object.__setattr__")))
    (mk_Rule : PySem.W.makesIn K C_Rule = true) (kc_Rule : PySem.W.keepIn K (.ref C_Rule) = true)
    (n_Rule_keep : PySem.W.findIn K (.ref C_Rule) "keep" = some none)
    (n_Rule_worn : PySem.W.findIn K (.ref C_Rule) "worn" = some none)
    (n_Rule_alone : PySem.W.findIn K (.ref C_Rule) "alone" = some none)
    (n_Rule_anew : PySem.W.findIn K (.ref C_Rule) "anew" = some none)
    (n_Rule_own : PySem.W.findIn K (.ref C_Rule) "own" = some none)
    (n_Rule_common : PySem.W.findIn K (.ref C_Rule) "common" = some none)
    (n_Rule_never : PySem.W.findIn K (.ref C_Rule) "never" = some none)
    (n_Rule_strict : PySem.W.findIn K (.ref C_Rule) "strict" = some none)
    {C_Wish : Addr} (aC_Wish : PySem.W.nsIn K mainGlobals "Wish" = some (some (.ref C_Wish))) (pg_Wish : PySem.W.plainGet K C_Wish Str.empty = true) (hd_Wish : PySem.W.hasDictIn K C_Wish = true) (po_Wish : PySem.W.plainOver K C_Wish = true) (sa_Wish : PySem.W.findIn K (.ref C_Wish) "__setattr__" = some (some (.builtin "object.__setattr__")))
    (mk_Wish : PySem.W.makesIn K C_Wish = true) (kc_Wish : PySem.W.keepIn K (.ref C_Wish) = true)
    (n_Wish_atmost : PySem.W.findIn K (.ref C_Wish) "atmost" = some none)
    (n_Wish_left : PySem.W.findIn K (.ref C_Wish) "left" = some none)
    (n_Wish_worn : PySem.W.findIn K (.ref C_Wish) "worn" = some none)
    (n_Wish_anew : PySem.W.findIn K (.ref C_Wish) "anew" = some none)
    (n_Wish_kept : PySem.W.findIn K (.ref C_Wish) "kept" = some none)
    (n_Wish_firm : PySem.W.findIn K (.ref C_Wish) "firm" = some none)
    {f0 : Addr} {od0 an0 : Option Addr} {sl0 : Array (Option Value)} {oc0 kV0 dc0 pm0 cd0 ct0 : Value}
    (a0 : PySem.W.nsIn K mainGlobals "is_made_of" = some (some (.ref f0)))
    (l0 : K.lookup f0 = some ⟨oc0, od0, .func (PySem.W.fnOf "is_made_of" "is_made_of" (defArgs s_is_made_of) (defBody s_is_made_of) (defScope s_is_made_of) .none kV0 dc0 pm0 an0 cd0 ct0), sl0⟩) (c0 : PySem.W.codeIn K cd0 "is_made_of" = true) (k0 : PySem.W.keepIn K (.ref f0) = true)
    {f1 : Addr} {od1 an1 : Option Addr} {sl1 : Array (Option Value)} {oc1 kV1 dc1 pm1 cd1 ct1 : Value}
    (a1 : PySem.W.nsIn K mainGlobals "is_name" = some (some (.ref f1)))
    (l1 : K.lookup f1 = some ⟨oc1, od1, .func (PySem.W.fnOf "is_name" "is_name" (defArgs s_is_name) (defBody s_is_name) (defScope s_is_name) .none kV1 dc1 pm1 an1 cd1 ct1), sl1⟩) (c1 : PySem.W.codeIn K cd1 "is_name" = true) (k1 : PySem.W.keepIn K (.ref f1) = true)
    {f2 : Addr} {od2 an2 : Option Addr} {sl2 : Array (Option Value)} {oc2 kV2 dc2 pm2 cd2 ct2 : Value}
    (a2 : PySem.W.nsIn K mainGlobals "is_figures" = some (some (.ref f2)))
    (l2 : K.lookup f2 = some ⟨oc2, od2, .func (PySem.W.fnOf "is_figures" "is_figures" (defArgs s_is_figures) (defBody s_is_figures) (defScope s_is_figures) .none kV2 dc2 pm2 an2 cd2 ct2), sl2⟩) (c2 : PySem.W.codeIn K cd2 "is_figures" = true) (k2 : PySem.W.keepIn K (.ref f2) = true)
    {f3 : Addr} {od3 an3 : Option Addr} {sl3 : Array (Option Value)} {oc3 kV3 dc3 pm3 cd3 ct3 : Value}
    (a3 : PySem.W.nsIn K mainGlobals "read_rule" = some (some (.ref f3)))
    (l3 : K.lookup f3 = some ⟨oc3, od3, .func (PySem.W.fnOf "read_rule" "read_rule" (defArgs s_read_rule) (defBody s_read_rule) (defScope s_read_rule) .none kV3 dc3 pm3 an3 cd3 ct3), sl3⟩) (c3 : PySem.W.codeIn K cd3 "read_rule" = true) (k3 : PySem.W.keepIn K (.ref f3) = true)
    {f4 : Addr} {od4 an4 : Option Addr} {sl4 : Array (Option Value)} {oc4 kV4 dc4 pm4 cd4 ct4 : Value}
    (a4 : PySem.W.nsIn K mainGlobals "read_wish" = some (some (.ref f4)))
    (l4 : K.lookup f4 = some ⟨oc4, od4, .func (PySem.W.fnOf "read_wish" "read_wish" (defArgs s_read_wish) (defBody s_read_wish) (defScope s_read_wish) .none kV4 dc4 pm4 an4 cd4 ct4), sl4⟩) (c4 : PySem.W.codeIn K cd4 "read_wish" = true) (k4 : PySem.W.keepIn K (.ref f4) = true)
    {f5 : Addr} {od5 an5 : Option Addr} {sl5 : Array (Option Value)} {oc5 kV5 dc5 pm5 cd5 ct5 : Value}
    (a5 : PySem.W.nsIn K mainGlobals "words_told" = some (some (.ref f5)))
    (l5 : K.lookup f5 = some ⟨oc5, od5, .func (PySem.W.fnOf "words_told" "words_told" (defArgs s_words_told) (defBody s_words_told) (defScope s_words_told) .none kV5 dc5 pm5 an5 cd5 ct5), sl5⟩) (c5 : PySem.W.codeIn K cd5 "words_told" = true) (k5 : PySem.W.keepIn K (.ref f5) = true)
    {f6 : Addr} {od6 an6 : Option Addr} {sl6 : Array (Option Value)} {oc6 kV6 dc6 pm6 cd6 ct6 : Value}
    (a6 : PySem.W.nsIn K mainGlobals "word_told" = some (some (.ref f6)))
    (l6 : K.lookup f6 = some ⟨oc6, od6, .func (PySem.W.fnOf "word_told" "word_told" (defArgs s_word_told) (defBody s_word_told) (defScope s_word_told) .none kV6 dc6 pm6 an6 cd6 ct6), sl6⟩) (c6 : PySem.W.codeIn K cd6 "word_told" = true) (k6 : PySem.W.keepIn K (.ref f6) = true)
    {f7 : Addr} {od7 an7 : Option Addr} {sl7 : Array (Option Value)} {oc7 kV7 dc7 pm7 cd7 ct7 : Value}
    (a7 : PySem.W.nsIn K mainGlobals "first_wrong" = some (some (.ref f7)))
    (l7 : K.lookup f7 = some ⟨oc7, od7, .func (PySem.W.fnOf "first_wrong" "first_wrong" (defArgs s_first_wrong) (defBody s_first_wrong) (defScope s_first_wrong) .none kV7 dc7 pm7 an7 cd7 ct7), sl7⟩) (c7 : PySem.W.codeIn K cd7 "first_wrong" = true) (k7 : PySem.W.keepIn K (.ref f7) = true)
    {f8 : Addr} {od8 an8 : Option Addr} {sl8 : Array (Option Value)} {oc8 kV8 dc8 pm8 cd8 ct8 : Value}
    (a8 : PySem.W.nsIn K mainGlobals "suits_its_name" = some (some (.ref f8)))
    (l8 : K.lookup f8 = some ⟨oc8, od8, .func (PySem.W.fnOf "suits_its_name" "suits_its_name" (defArgs s_suits_its_name) (defBody s_suits_its_name) (defScope s_suits_its_name) .none kV8 dc8 pm8 an8 cd8 ct8), sl8⟩) (c8 : PySem.W.codeIn K cd8 "suits_its_name" = true) (k8 : PySem.W.keepIn K (.ref f8) = true)
    {f9 : Addr} {od9 an9 : Option Addr} {sl9 : Array (Option Value)} {oc9 kV9 dc9 pm9 cd9 ct9 : Value}
    (a9 : PySem.W.nsIn K mainGlobals "numbers_told" = some (some (.ref f9)))
    (l9 : K.lookup f9 = some ⟨oc9, od9, .func (PySem.W.fnOf "numbers_told" "numbers_told" (defArgs s_numbers_told) (defBody s_numbers_told) (defScope s_numbers_told) .none kV9 dc9 pm9 an9 cd9 ct9), sl9⟩) (c9 : PySem.W.codeIn K cd9 "numbers_told" = true) (k9 : PySem.W.keepIn K (.ref f9) = true)
    {f10 : Addr} {od10 an10 : Option Addr} {sl10 : Array (Option Value)} {oc10 kV10 dc10 pm10 cd10 ct10 : Value}
    (a10 : PySem.W.nsIn K mainGlobals "is_told" = some (some (.ref f10)))
    (l10 : K.lookup f10 = some ⟨oc10, od10, .func (PySem.W.fnOf "is_told" "is_told" (defArgs s_is_told) (defBody s_is_told) (defScope s_is_told) .none kV10 dc10 pm10 an10 cd10 ct10), sl10⟩) (c10 : PySem.W.codeIn K cd10 "is_told" = true) (k10 : PySem.W.keepIn K (.ref f10) = true)
    {f11 : Addr} {od11 an11 : Option Addr} {sl11 : Array (Option Value)} {oc11 kV11 dc11 pm11 cd11 ct11 : Value}
    (a11 : PySem.W.nsIn K mainGlobals "lets" = some (some (.ref f11)))
    (l11 : K.lookup f11 = some ⟨oc11, od11, .func (PySem.W.fnOf "lets" "lets" (defArgs s_lets) (defBody s_lets) (defScope s_lets) .none kV11 dc11 pm11 an11 cd11 ct11), sl11⟩) (c11 : PySem.W.codeIn K cd11 "lets" = true) (k11 : PySem.W.keepIn K (.ref f11) = true)
    {f12 : Addr} {od12 an12 : Option Addr} {sl12 : Array (Option Value)} {oc12 dc12 pm12 cd12 ct12 : Value} {D12 : Addr}
    (a12 : PySem.W.nsIn K mainGlobals "serves" = some (some (.ref f12)))
    (l12 : K.lookup f12 = some ⟨oc12, od12, .func (PySem.W.fnOf "serves" "serves" (defArgs s_serves) (defBody s_serves) (defScope s_serves) .none (.ref D12) dc12 pm12 an12 cd12 ct12), sl12⟩) (c12 : PySem.W.codeIn K cd12 "serves" = true) (k12 : PySem.W.keepIn K (.ref f12) = true)
    (y_serves_alone : PySem.W.nsIn K D12 "alone" = some (some (.bool false)))
    {f13 : Addr} {od13 an13 : Option Addr} {sl13 : Array (Option Value)} {oc13 kV13 dc13 pm13 cd13 ct13 : Value}
    (a13 : PySem.W.nsIn K mainGlobals "_law_well" = some (some (.ref f13)))
    (l13 : K.lookup f13 = some ⟨oc13, od13, .func (PySem.W.fnOf "_law_well" "_law_well" (defArgs s_law_well) (defBody s_law_well) (defScope s_law_well) .none kV13 dc13 pm13 an13 cd13 ct13), sl13⟩) (c13 : PySem.W.codeIn K cd13 "_law_well" = true) (k13 : PySem.W.keepIn K (.ref f13) = true)
    {f14 : Addr} {od14 an14 : Option Addr} {sl14 : Array (Option Value)} {oc14 kV14 dc14 pm14 cd14 ct14 : Value}
    (a14 : PySem.W.nsIn K mainGlobals "_law_draw" = some (some (.ref f14)))
    (l14 : K.lookup f14 = some ⟨oc14, od14, .func (PySem.W.fnOf "_law_draw" "_law_draw" (defArgs s_law_draw) (defBody s_law_draw) (defScope s_law_draw) .none kV14 dc14 pm14 an14 cd14 ct14), sl14⟩) (c14 : PySem.W.codeIn K cd14 "_law_draw" = true) (k14 : PySem.W.keepIn K (.ref f14) = true)
    {f15 : Addr} {od15 an15 : Option Addr} {sl15 : Array (Option Value)} {oc15 kV15 dc15 pm15 cd15 ct15 : Value}
    (a15 : PySem.W.nsIn K mainGlobals "_law_number" = some (some (.ref f15)))
    (l15 : K.lookup f15 = some ⟨oc15, od15, .func (PySem.W.fnOf "_law_number" "_law_number" (defArgs s_law_number) (defBody s_law_number) (defScope s_law_number) .none kV15 dc15 pm15 an15 cd15 ct15), sl15⟩) (c15 : PySem.W.codeIn K cd15 "_law_number" = true) (k15 : PySem.W.keepIn K (.ref f15) = true)
    {f16 : Addr} {od16 an16 : Option Addr} {sl16 : Array (Option Value)} {oc16 kV16 dc16 pm16 cd16 ct16 : Value}
    (a16 : PySem.W.nsIn K mainGlobals "_law_words" = some (some (.ref f16)))
    (l16 : K.lookup f16 = some ⟨oc16, od16, .func (PySem.W.fnOf "_law_words" "_law_words" (defArgs s_law_words) (defBody s_law_words) (defScope s_law_words) .none kV16 dc16 pm16 an16 cd16 ct16), sl16⟩) (c16 : PySem.W.codeIn K cd16 "_law_words" = true) (k16 : PySem.W.keepIn K (.ref f16) = true)
    {f17 : Addr} {od17 an17 : Option Addr} {sl17 : Array (Option Value)} {oc17 kV17 dc17 pm17 cd17 ct17 : Value}
    (a17 : PySem.W.nsIn K mainGlobals "_law_rule_row" = some (some (.ref f17)))
    (l17 : K.lookup f17 = some ⟨oc17, od17, .func (PySem.W.fnOf "_law_rule_row" "_law_rule_row" (defArgs s_law_rule_row) (defBody s_law_rule_row) (defScope s_law_rule_row) .none kV17 dc17 pm17 an17 cd17 ct17), sl17⟩) (c17 : PySem.W.codeIn K cd17 "_law_rule_row" = true) (k17 : PySem.W.keepIn K (.ref f17) = true)
    {f18 : Addr} {od18 an18 : Option Addr} {sl18 : Array (Option Value)} {oc18 kV18 dc18 pm18 cd18 ct18 : Value}
    (a18 : PySem.W.nsIn K mainGlobals "_law_wish_row" = some (some (.ref f18)))
    (l18 : K.lookup f18 = some ⟨oc18, od18, .func (PySem.W.fnOf "_law_wish_row" "_law_wish_row" (defArgs s_law_wish_row) (defBody s_law_wish_row) (defScope s_law_wish_row) .none kV18 dc18 pm18 an18 cd18 ct18), sl18⟩) (c18 : PySem.W.codeIn K cd18 "_law_wish_row" = true) (k18 : PySem.W.keepIn K (.ref f18) = true)
    {f19 : Addr} {od19 an19 : Option Addr} {sl19 : Array (Option Value)} {oc19 kV19 dc19 pm19 cd19 ct19 : Value}
    (a19 : PySem.W.nsIn K mainGlobals "_law_till" = some (some (.ref f19)))
    (l19 : K.lookup f19 = some ⟨oc19, od19, .func (PySem.W.fnOf "_law_till" "_law_till" (defArgs s_law_till) (defBody s_law_till) (defScope s_law_till) .none kV19 dc19 pm19 an19 cd19 ct19), sl19⟩) (c19 : PySem.W.codeIn K cd19 "_law_till" = true) (k19 : PySem.W.keepIn K (.ref f19) = true)
    {f20 : Addr} {od20 an20 : Option Addr} {sl20 : Array (Option Value)} {oc20 kV20 dc20 pm20 cd20 ct20 : Value}
    (a20 : PySem.W.nsIn K mainGlobals "_law_ages" = some (some (.ref f20)))
    (l20 : K.lookup f20 = some ⟨oc20, od20, .func (PySem.W.fnOf "_law_ages" "_law_ages" (defArgs s_law_ages) (defBody s_law_ages) (defScope s_law_ages) .none kV20 dc20 pm20 an20 cd20 ct20), sl20⟩) (c20 : PySem.W.codeIn K cd20 "_law_ages" = true) (k20 : PySem.W.keepIn K (.ref f20) = true)
    {f21 : Addr} {od21 an21 : Option Addr} {sl21 : Array (Option Value)} {oc21 kV21 dc21 pm21 cd21 ct21 : Value}
    (a21 : PySem.W.nsIn K mainGlobals "law" = some (some (.ref f21)))
    (l21 : K.lookup f21 = some ⟨oc21, od21, .func (PySem.W.fnOf "law" "law" (defArgs s_law) (defBody s_law) (defScope s_law) .none kV21 dc21 pm21 an21 cd21 ct21), sl21⟩) (c21 : PySem.W.codeIn K cd21 "law" = true) (k21 : PySem.W.keepIn K (.ref f21) = true)
    {f22 : Addr} {od22 an22 : Option Addr} {sl22 : Array (Option Value)} {oc22 dc22 pm22 cd22 ct22 : Value} {D22 : Addr}
    (a22_Rule : PySem.W.findIn K (.ref C_Rule) "__init__" = some (some (.ref f22)))
    (i22 : PySem.W.isFn K (.ref f22) = true)
    (l22 : K.lookup f22 = some ⟨oc22, od22, .func (PySem.W.fnOf "__init__" "Rule.__init__" (defArgs s_Rule_init) (defBody s_Rule_init) (defScope s_Rule_init) .none (.ref D22) dc22 pm22 an22 cd22 ct22), sl22⟩) (c22 : PySem.W.codeIn K cd22 "Rule.__init__" = true) (k22 : PySem.W.keepIn K (.ref f22) = true)
    {tk_Rule_init_keep : Tok}
    (y_Rule_init_keep : PySem.W.nsIn K D22 "keep" = some (some (.int 0 tk_Rule_init_keep)))
    {tk_Rule_init_worn : Tok}
    (y_Rule_init_worn : PySem.W.nsIn K D22 "worn" = some (some (.int 0 tk_Rule_init_worn)))
    {tk_Rule_init_alone : Tok}
    (y_Rule_init_alone : PySem.W.nsIn K D22 "alone" = some (some (.int 0 tk_Rule_init_alone)))
    (y_Rule_init_anew : PySem.W.nsIn K D22 "anew" = some (some (.bool false)))
    (y_Rule_init_own : PySem.W.nsIn K D22 "own" = some (some (.bool false)))
    (y_Rule_init_common : PySem.W.nsIn K D22 "common" = some (some (.bool false)))
    (y_Rule_init_never : PySem.W.nsIn K D22 "never" = some (some (.bool false)))
    (y_Rule_init_strict : PySem.W.nsIn K D22 "strict" = some (some (.bool false)))
    {f23 : Addr} {od23 an23 : Option Addr} {sl23 : Array (Option Value)} {oc23 dc23 pm23 cd23 ct23 : Value} {D23 : Addr}
    (a23_Wish : PySem.W.findIn K (.ref C_Wish) "__init__" = some (some (.ref f23)))
    (i23 : PySem.W.isFn K (.ref f23) = true)
    (l23 : K.lookup f23 = some ⟨oc23, od23, .func (PySem.W.fnOf "__init__" "Wish.__init__" (defArgs s_Wish_init) (defBody s_Wish_init) (defScope s_Wish_init) .none (.ref D23) dc23 pm23 an23 cd23 ct23), sl23⟩) (c23 : PySem.W.codeIn K cd23 "Wish.__init__" = true) (k23 : PySem.W.keepIn K (.ref f23) = true)
    (y_Wish_init_atmost : PySem.W.nsIn K D23 "atmost" = some (some (.none)))
    {tk_Wish_init_left : Tok}
    (y_Wish_init_left : PySem.W.nsIn K D23 "left" = some (some (.int 0 tk_Wish_init_left)))
    {tk_Wish_init_worn : Tok}
    (y_Wish_init_worn : PySem.W.nsIn K D23 "worn" = some (some (.int 0 tk_Wish_init_worn)))
    (y_Wish_init_anew : PySem.W.nsIn K D23 "anew" = some (some (.bool false)))
    (y_Wish_init_kept : PySem.W.nsIn K D23 "kept" = some (some (.bool false)))
    (y_Wish_init_firm : PySem.W.nsIn K D23 "firm" = some (some (.bool false)))
    {t_LETTERS : Tok} (x_LETTERS : PySem.W.nsIn K mainGlobals "LETTERS" = some (some (.str "abcdefghijklmnopqrstuvwxyz" t_LETTERS)))
    {t_FIGURES : Tok} (x_FIGURES : PySem.W.nsIn K mainGlobals "FIGURES" = some (some (.str "0123456789" t_FIGURES)))
    {t_LONGEST_NAME : Tok} (x_LONGEST_NAME : PySem.W.nsIn K mainGlobals "LONGEST_NAME" = some (some (.int 8 t_LONGEST_NAME)))
    {t_MOST_FIGURES : Tok} (x_MOST_FIGURES : PySem.W.nsIn K mainGlobals "MOST_FIGURES" = some (some (.int 60 t_MOST_FIGURES)))
    {a_RULE_NUMBERS : Addr} {tt_RULE_NUMBERS_0 tt_RULE_NUMBERS_1 tt_RULE_NUMBERS_2 : Tok} {od_RULE_NUMBERS : Option Addr} {nn_RULE_NUMBERS : Nat} {sl_RULE_NUMBERS : Array (Option Value)} (x_RULE_NUMBERS : PySem.W.nsIn K mainGlobals "RULE_NUMBERS" = some (some (.ref a_RULE_NUMBERS))) (y_RULE_NUMBERS : K.lookup a_RULE_NUMBERS = some ⟨.type "tuple", od_RULE_NUMBERS, .seq #[.str "keep" tt_RULE_NUMBERS_0, .str "worn" tt_RULE_NUMBERS_1, .str "alone" tt_RULE_NUMBERS_2] nn_RULE_NUMBERS, sl_RULE_NUMBERS⟩)
    {a_RULE_TRUTHS : Addr} {tt_RULE_TRUTHS_0 tt_RULE_TRUTHS_1 tt_RULE_TRUTHS_2 tt_RULE_TRUTHS_3 tt_RULE_TRUTHS_4 : Tok} {od_RULE_TRUTHS : Option Addr} {nn_RULE_TRUTHS : Nat} {sl_RULE_TRUTHS : Array (Option Value)} (x_RULE_TRUTHS : PySem.W.nsIn K mainGlobals "RULE_TRUTHS" = some (some (.ref a_RULE_TRUTHS))) (y_RULE_TRUTHS : K.lookup a_RULE_TRUTHS = some ⟨.type "tuple", od_RULE_TRUTHS, .seq #[.str "anew" tt_RULE_TRUTHS_0, .str "own" tt_RULE_TRUTHS_1, .str "common" tt_RULE_TRUTHS_2, .str "never" tt_RULE_TRUTHS_3, .str "strict" tt_RULE_TRUTHS_4] nn_RULE_TRUTHS, sl_RULE_TRUTHS⟩)
    {a_WISH_NUMBERS : Addr} {tt_WISH_NUMBERS_0 tt_WISH_NUMBERS_1 tt_WISH_NUMBERS_2 : Tok} {od_WISH_NUMBERS : Option Addr} {nn_WISH_NUMBERS : Nat} {sl_WISH_NUMBERS : Array (Option Value)} (x_WISH_NUMBERS : PySem.W.nsIn K mainGlobals "WISH_NUMBERS" = some (some (.ref a_WISH_NUMBERS))) (y_WISH_NUMBERS : K.lookup a_WISH_NUMBERS = some ⟨.type "tuple", od_WISH_NUMBERS, .seq #[.str "atmost" tt_WISH_NUMBERS_0, .str "left" tt_WISH_NUMBERS_1, .str "worn" tt_WISH_NUMBERS_2] nn_WISH_NUMBERS, sl_WISH_NUMBERS⟩)
    {a_WISH_TRUTHS : Addr} {tt_WISH_TRUTHS_0 tt_WISH_TRUTHS_1 tt_WISH_TRUTHS_2 : Tok} {od_WISH_TRUTHS : Option Addr} {nn_WISH_TRUTHS : Nat} {sl_WISH_TRUTHS : Array (Option Value)} (x_WISH_TRUTHS : PySem.W.nsIn K mainGlobals "WISH_TRUTHS" = some (some (.ref a_WISH_TRUTHS))) (y_WISH_TRUTHS : K.lookup a_WISH_TRUTHS = some ⟨.type "tuple", od_WISH_TRUTHS, .seq #[.str "anew" tt_WISH_TRUTHS_0, .str "kept" tt_WISH_TRUTHS_1, .str "firm" tt_WISH_TRUTHS_2] nn_WISH_TRUTHS, sl_WISH_TRUTHS⟩)
    {a_SERVED : Addr} {tt_SERVED_0 tt_SERVED_1 tt_SERVED_2 : Tok} {od_SERVED : Option Addr} {nn_SERVED : Nat} {sl_SERVED : Array (Option Value)} (x_SERVED : PySem.W.nsIn K mainGlobals "SERVED" = some (some (.ref a_SERVED))) (y_SERVED : K.lookup a_SERVED = some ⟨.type "tuple", od_SERVED, .seq #[.str "fresh" tt_SERVED_0, .str "let" tt_SERVED_1, .str "worn" tt_SERVED_2] nn_SERVED, sl_SERVED⟩)
    (z_all : PySem.W.nsIn K mainGlobals "all" = some none)
    (z_enumerate : PySem.W.nsIn K mainGlobals "enumerate" = some none)
    (z_int : PySem.W.nsIn K mainGlobals "int" = some none)
    (z_isinstance : PySem.W.nsIn K mainGlobals "isinstance" = some none)
    (z_len : PySem.W.nsIn K mainGlobals "len" = some none)
    (z_list : PySem.W.nsIn K mainGlobals "list" = some none)
    (z_max : PySem.W.nsIn K mainGlobals "max" = some none)
    (z_min : PySem.W.nsIn K mainGlobals "min" = some none)
    (z_range : PySem.W.nsIn K mainGlobals "range" = some none)
    (z_str : PySem.W.nsIn K mainGlobals "str" = some none)
    : ∃ fd : FuncData, (∀ (s : Shared) (v : Value), BindsTo s fd ⟨[v], []⟩ [("_law_script", v)]) ∧ ∀ base : Heap, K.In base → base.Ns mainGlobals mg → FnOk l.prog w K mg base CX0 6 fa fd ["_law_script"] (spLaw K) := by
  have e := hfa.symm.trans (PySem.W.mg_of X G a21)
  cases e
  have F0 := fun_mk (st := s_is_made_of) l0 c0 k0
  have F1 := fun_mk (st := s_is_name) l1 c1 k1
  have F2 := fun_mk (st := s_is_figures) l2 c2 k2
  have F3 := fun_mk (st := s_read_rule) l3 c3 k3
  have F4 := fun_mk (st := s_read_wish) l4 c4 k4
  have F5 := fun_mk (st := s_words_told) l5 c5 k5
  have F6 := fun_mk (st := s_word_told) l6 c6 k6
  have F7 := fun_mk (st := s_first_wrong) l7 c7 k7
  have F8 := fun_mk (st := s_suits_its_name) l8 c8 k8
  have F9 := fun_mk (st := s_numbers_told) l9 c9 k9
  have F10 := fun_mk (st := s_is_told) l10 c10 k10
  have F11 := fun_mk (st := s_lets) l11 c11 k11
  have F12 := fun_mk (st := s_serves) l12 c12 k12
  have FK12 : FunD K "serves" "serves" (defArgs s_serves) (defBody s_serves) (defScope s_serves) [] ([("alone", .bl false)] : List (Str × V)) f12 _ := ⟨⟨_, _, _, _, _, _, _, _, _, _, rfl, l12, c12, .inl ⟨rfl, rfl⟩, .inr ⟨_, rfl, (List.forall_mem_cons.mpr ⟨⟨_, y_serves_alone, rfl⟩, (fun _ h => nomatch h)⟩)⟩⟩, k12⟩
  have F13 := fun_mk (st := s_law_well) l13 c13 k13
  have F14 := fun_mk (st := s_law_draw) l14 c14 k14
  have F15 := fun_mk (st := s_law_number) l15 c15 k15
  have F16 := fun_mk (st := s_law_words) l16 c16 k16
  have F17 := fun_mk (st := s_law_rule_row) l17 c17 k17
  have F18 := fun_mk (st := s_law_wish_row) l18 c18 k18
  have F19 := fun_mk (st := s_law_till) l19 c19 k19
  have F20 := fun_mk (st := s_law_ages) l20 c20 k20
  have F21 := fun_mk (st := s_law) l21 c21 k21
  have F22 := fun_mk (st := s_Rule_init) l22 c22 k22
  have FK22 : FunD K "__init__" "Rule.__init__" (defArgs s_Rule_init) (defBody s_Rule_init) (defScope s_Rule_init) [] ([("keep", .int 0), ("worn", .int 0), ("alone", .int 0), ("anew", .bl false), ("own", .bl false), ("common", .bl false), ("never", .bl false), ("strict", .bl false)] : List (Str × V)) f22 _ := ⟨⟨_, _, _, _, _, _, _, _, _, _, rfl, l22, c22, .inl ⟨rfl, rfl⟩, .inr ⟨_, rfl, (List.forall_mem_cons.mpr ⟨⟨_, y_Rule_init_keep, ⟨_, rfl⟩⟩, (List.forall_mem_cons.mpr ⟨⟨_, y_Rule_init_worn, ⟨_, rfl⟩⟩, (List.forall_mem_cons.mpr ⟨⟨_, y_Rule_init_alone, ⟨_, rfl⟩⟩, (List.forall_mem_cons.mpr ⟨⟨_, y_Rule_init_anew, rfl⟩, (List.forall_mem_cons.mpr ⟨⟨_, y_Rule_init_own, rfl⟩, (List.forall_mem_cons.mpr ⟨⟨_, y_Rule_init_common, rfl⟩, (List.forall_mem_cons.mpr ⟨⟨_, y_Rule_init_never, rfl⟩, (List.forall_mem_cons.mpr ⟨⟨_, y_Rule_init_strict, rfl⟩, (fun _ h => nomatch h)⟩)⟩)⟩)⟩)⟩)⟩)⟩)⟩)⟩⟩, k22⟩
  have F23 := fun_mk (st := s_Wish_init) l23 c23 k23
  have FK23 : FunD K "__init__" "Wish.__init__" (defArgs s_Wish_init) (defBody s_Wish_init) (defScope s_Wish_init) [] ([("atmost", .non), ("left", .int 0), ("worn", .int 0), ("anew", .bl false), ("kept", .bl false), ("firm", .bl false)] : List (Str × V)) f23 _ := ⟨⟨_, _, _, _, _, _, _, _, _, _, rfl, l23, c23, .inl ⟨rfl, rfl⟩, .inr ⟨_, rfl, (List.forall_mem_cons.mpr ⟨⟨_, y_Wish_init_atmost, rfl⟩, (List.forall_mem_cons.mpr ⟨⟨_, y_Wish_init_left, ⟨_, rfl⟩⟩, (List.forall_mem_cons.mpr ⟨⟨_, y_Wish_init_worn, ⟨_, rfl⟩⟩, (List.forall_mem_cons.mpr ⟨⟨_, y_Wish_init_anew, rfl⟩, (List.forall_mem_cons.mpr ⟨⟨_, y_Wish_init_kept, rfl⟩, (List.forall_mem_cons.mpr ⟨⟨_, y_Wish_init_firm, rfl⟩, (fun _ h => nomatch h)⟩)⟩)⟩)⟩)⟩)⟩)⟩⟩, k23⟩
  let T : Txt K mg := {
    f_is_made_of := f0, fd_is_made_of := _, d_is_made_of := ⟨F0, F0.binds (ps := ["text", "signs", "least", "most"]) (fun _ _ _ _ _ _ us hl => match us, hl with | [_, _, _, _], _ => rfl), PySem.W.mg_of X G a0⟩,
    f_is_name := f1, fd_is_name := _, d_is_name := ⟨F1, F1.binds (ps := ["text"]) (fun _ _ _ _ _ _ us hl => match us, hl with | [_], _ => rfl), PySem.W.mg_of X G a1⟩,
    f_is_figures := f2, fd_is_figures := _, d_is_figures := ⟨F2, F2.binds (ps := ["text"]) (fun _ _ _ _ _ _ us hl => match us, hl with | [_], _ => rfl), PySem.W.mg_of X G a2⟩,
    f_read_rule := f3, fd_read_rule := _, d_read_rule := ⟨F3, F3.binds (ps := ["text"]) (fun _ _ _ _ _ _ us hl => match us, hl with | [_], _ => rfl), PySem.W.mg_of X G a3⟩,
    f_read_wish := f4, fd_read_wish := _, d_read_wish := ⟨F4, F4.binds (ps := ["text"]) (fun _ _ _ _ _ _ us hl => match us, hl with | [_], _ => rfl), PySem.W.mg_of X G a4⟩,
    f_words_told := f5, fd_words_told := _, d_words_told := ⟨F5, F5.binds (ps := ["text"]) (fun _ _ _ _ _ _ us hl => match us, hl with | [_], _ => rfl), PySem.W.mg_of X G a5⟩,
    f_word_told := f6, fd_word_told := _, d_word_told := ⟨F6, F6.binds (ps := ["piece"]) (fun _ _ _ _ _ _ us hl => match us, hl with | [_], _ => rfl), PySem.W.mg_of X G a6⟩,
    f_first_wrong := f7, fd_first_wrong := _, d_first_wrong := ⟨F7, F7.binds (ps := ["words", "numbers", "truths"]) (fun _ _ _ _ _ _ us hl => match us, hl with | [_, _, _], _ => rfl), PySem.W.mg_of X G a7⟩,
    f_suits_its_name := f8, fd_suits_its_name := _, d_suits_its_name := ⟨F8, F8.binds (ps := ["word", "numbers", "truths"]) (fun _ _ _ _ _ _ us hl => match us, hl with | [_, _, _], _ => rfl), PySem.W.mg_of X G a8⟩,
    f_numbers_told := f9, fd_numbers_told := _, d_numbers_told := ⟨F9, F9.binds (ps := ["words", "name"]) (fun _ _ _ _ _ _ us hl => match us, hl with | [_, _], _ => rfl), PySem.W.mg_of X G a9⟩,
    f_is_told := f10, fd_is_told := _, d_is_told := ⟨F10, F10.binds (ps := ["words", "name"]) (fun _ _ _ _ _ _ us hl => match us, hl with | [_, _], _ => rfl), PySem.W.mg_of X G a10⟩,
    f_lets := f11, fd_lets := _, d_lets := ⟨F11, F11.binds (ps := ["rule", "wish", "age"]) (fun _ _ _ _ _ _ us hl => match us, hl with | [_, _, _], _ => rfl), PySem.W.mg_of X G a11⟩,
    f_serves := f12, fd_serves := _, d_serves := ⟨F12, PySem.W.mg_of X G a12⟩,
    f_law_well := f13, fd_law_well := _, d_law_well := ⟨F13, F13.binds (ps := ["_law_cell"]) (fun _ _ _ _ _ _ us hl => match us, hl with | [_], _ => rfl), PySem.W.mg_of X G a13⟩,
    f_law_draw := f14, fd_law_draw := _, d_law_draw := ⟨F14, F14.binds (ps := ["_law_well_here", "_law_many"]) (fun _ _ _ _ _ _ us hl => match us, hl with | [_, _], _ => rfl), PySem.W.mg_of X G a14⟩,
    f_law_number := f15, fd_law_number := _, d_law_number := ⟨F15, F15.binds (ps := ["_law_well_here"]) (fun _ _ _ _ _ _ us hl => match us, hl with | [_], _ => rfl), PySem.W.mg_of X G a15⟩,
    f_law_words := f16, fd_law_words := _, d_law_words := ⟨F16, F16.binds (ps := ["_law_names", "_law_some"]) (fun _ _ _ _ _ _ us hl => match us, hl with | [_, _], _ => rfl), PySem.W.mg_of X G a16⟩,
    f_law_rule_row := f17, fd_law_rule_row := _, d_law_rule_row := ⟨F17, F17.binds (ps := ["_law_well_here"]) (fun _ _ _ _ _ _ us hl => match us, hl with | [_], _ => rfl), PySem.W.mg_of X G a17⟩,
    f_law_wish_row := f18, fd_law_wish_row := _, d_law_wish_row := ⟨F18, F18.binds (ps := ["_law_well_here"]) (fun _ _ _ _ _ _ us hl => match us, hl with | [_], _ => rfl), PySem.W.mg_of X G a18⟩,
    f_law_till := f19, fd_law_till := _, d_law_till := ⟨F19, F19.binds (ps := ["_law_mine", "_law_wished"]) (fun _ _ _ _ _ _ us hl => match us, hl with | [_, _], _ => rfl), PySem.W.mg_of X G a19⟩,
    f_law_ages := f20, fd_law_ages := _, d_law_ages := ⟨F20, F20.binds (ps := ["_law_well_here", "_law_mine", "_law_wished"]) (fun _ _ _ _ _ _ us hl => match us, hl with | [_, _, _], _ => rfl), PySem.W.mg_of X G a20⟩,
    f_law := fa, fd_law := _, d_law := ⟨F21, F21.binds (ps := ["_law_script"]) (fun _ _ _ _ _ _ us hl => match us, hl with | [_], _ => rfl), PySem.W.mg_of X G a21⟩,
    f_Rule_init := f22, fd_Rule_init := _, d_Rule_init := ⟨F22⟩,
    f_Wish_init := f23, fd_Wish_init := _, d_Wish_init := ⟨F23⟩,
    C_Rule := C_Rule, g_Rule := PySem.W.mg_of X G aC_Rule, cl_Rule := ⟨pg_Rule, hd_Rule, po_Rule, sa_Rule⟩,
    mk_Rule := ⟨mk_Rule, a22_Rule, i22, kc_Rule⟩,
    n_Rule_keep := n_Rule_keep,
    n_Rule_worn := n_Rule_worn,
    n_Rule_alone := n_Rule_alone,
    n_Rule_anew := n_Rule_anew,
    n_Rule_own := n_Rule_own,
    n_Rule_common := n_Rule_common,
    n_Rule_never := n_Rule_never,
    n_Rule_strict := n_Rule_strict,
    C_Wish := C_Wish, g_Wish := PySem.W.mg_of X G aC_Wish, cl_Wish := ⟨pg_Wish, hd_Wish, po_Wish, sa_Wish⟩,
    mk_Wish := ⟨mk_Wish, a23_Wish, i23, kc_Wish⟩,
    n_Wish_atmost := n_Wish_atmost,
    n_Wish_left := n_Wish_left,
    n_Wish_worn := n_Wish_worn,
    n_Wish_anew := n_Wish_anew,
    n_Wish_kept := n_Wish_kept,
    n_Wish_firm := n_Wish_firm,
    kb_0 := (FK22.kbinds0 (ps := ["self", "keep", "worn", "alone", "anew", "own", "common", "never", "strict"]) 1 ["keep", "worn", "alone", "anew", "own", "common", "never", "strict"] [] (fun us mv ws => us ++ pickKw [.inr 0, .inr 1, .inr 2, .inr 3, .inr 4, .inr 5, .inr 6, .inr 7] mv ws) (by simp) (by simp) (fun r1 r2 r3 => pick_rel [.inr 0, .inr 1, .inr 2, .inr 3, .inr 4, .inr 5, .inr 6, .inr 7] r1 r2 r3) (fun D doc pm an cdv ct us mv ws h1 h2 h3 => match us, mv, ws, h1, h2, h3 with | [_], [], [_, _, _, _, _, _, _, _], _, _, _ => rfl)).elim (fun mv h => ⟨_, h⟩),
    kb_1 := (FK23.kbinds0 (ps := ["self", "atmost", "left", "worn", "anew", "kept", "firm"]) 1 ["atmost", "left", "worn", "anew", "kept", "firm"] [] (fun us mv ws => us ++ pickKw [.inr 0, .inr 1, .inr 2, .inr 3, .inr 4, .inr 5] mv ws) (by simp) (by simp) (fun r1 r2 r3 => pick_rel [.inr 0, .inr 1, .inr 2, .inr 3, .inr 4, .inr 5] r1 r2 r3) (fun D doc pm an cdv ct us mv ws h1 h2 h3 => match us, mv, ws, h1, h2, h3 with | [_], [], [_, _, _, _, _, _], _, _, _ => rfl)).elim (fun mv h => ⟨_, h⟩),
    kb_2 := (FK12.kbinds0 (ps := ["rule", "wish", "age", "alone"]) 3 ["alone"] [] (fun us mv ws => us ++ pickKw [.inr 0] mv ws) (by simp) (by simp) (fun r1 r2 r3 => pick_rel [.inr 0] r1 r2 r3) (fun D doc pm an cdv ct us mv ws h1 h2 h3 => match us, mv, ws, h1, h2, h3 with | [_, _, _], [], [_], _, _, _ => rfl)).elim (fun mv h => ⟨_, h⟩),
    kb_3 := FK12.binds0 (ps := ["rule", "wish", "age", "alone"]) 3 (by simp) rfl (fun D doc pm an cdv ct us ks h1 h2 => match us, ks, h1, h2 with | [_, _, _], [_], _, _ => ⟨_, _, _, _, _, _, rfl, rfl, rfl⟩),
    t_LETTERS := _, g_LETTERS := PySem.W.mg_of X G x_LETTERS,
    t_FIGURES := _, g_FIGURES := PySem.W.mg_of X G x_FIGURES,
    t_LONGEST_NAME := _, g_LONGEST_NAME := PySem.W.mg_of X G x_LONGEST_NAME,
    t_MOST_FIGURES := _, g_MOST_FIGURES := PySem.W.mg_of X G x_MOST_FIGURES,
    a_RULE_NUMBERS := a_RULE_NUMBERS, g_RULE_NUMBERS := PySem.W.mg_of X G x_RULE_NUMBERS, q_RULE_NUMBERS := fun H => .inr ⟨_, _, _, y_RULE_NUMBERS, rfl, rfl, (by show 3 ≤ sizeLine; decide), (.cons ⟨_, rfl⟩ (.cons ⟨_, rfl⟩ (.cons ⟨_, rfl⟩ .nil)))⟩,
    a_RULE_TRUTHS := a_RULE_TRUTHS, g_RULE_TRUTHS := PySem.W.mg_of X G x_RULE_TRUTHS, q_RULE_TRUTHS := fun H => .inr ⟨_, _, _, y_RULE_TRUTHS, rfl, rfl, (by show 5 ≤ sizeLine; decide), (.cons ⟨_, rfl⟩ (.cons ⟨_, rfl⟩ (.cons ⟨_, rfl⟩ (.cons ⟨_, rfl⟩ (.cons ⟨_, rfl⟩ .nil)))))⟩,
    a_WISH_NUMBERS := a_WISH_NUMBERS, g_WISH_NUMBERS := PySem.W.mg_of X G x_WISH_NUMBERS, q_WISH_NUMBERS := fun H => .inr ⟨_, _, _, y_WISH_NUMBERS, rfl, rfl, (by show 3 ≤ sizeLine; decide), (.cons ⟨_, rfl⟩ (.cons ⟨_, rfl⟩ (.cons ⟨_, rfl⟩ .nil)))⟩,
    a_WISH_TRUTHS := a_WISH_TRUTHS, g_WISH_TRUTHS := PySem.W.mg_of X G x_WISH_TRUTHS, q_WISH_TRUTHS := fun H => .inr ⟨_, _, _, y_WISH_TRUTHS, rfl, rfl, (by show 3 ≤ sizeLine; decide), (.cons ⟨_, rfl⟩ (.cons ⟨_, rfl⟩ (.cons ⟨_, rfl⟩ .nil)))⟩,
    a_SERVED := a_SERVED, g_SERVED := PySem.W.mg_of X G x_SERVED, q_SERVED := fun H => .inr ⟨_, _, _, y_SERVED, rfl, rfl, (by show 3 ≤ sizeLine; decide), (.cons ⟨_, rfl⟩ (.cons ⟨_, rfl⟩ (.cons ⟨_, rfl⟩ .nil)))⟩,
    m_all := PySem.W.mg_none_of X G z_all,
    m_enumerate := PySem.W.mg_none_of X G z_enumerate,
    m_int := PySem.W.mg_none_of X G z_int,
    m_isinstance := PySem.W.mg_none_of X G z_isinstance,
    m_len := PySem.W.mg_none_of X G z_len,
    m_list := PySem.W.mg_none_of X G z_list,
    m_max := PySem.W.mg_none_of X G z_max,
    m_min := PySem.W.mg_none_of X G z_min,
    m_range := PySem.W.mg_none_of X G z_range,
    m_str := PySem.W.mg_none_of X G z_str
  }
  exact ⟨T.fd_law, fun s v => .of_eq rfl, fun base _ _ => ok_law T⟩
end My
open PySem PySem.W PyProof.Rows
set_option maxHeartbeats 0 in
theorem PySem.Challenge.cw_pagelodge_k17_what_may_be_served_holds : PySem.Challenge.rw_pagelodge_k17_what_may_be_served.Holds := by
  w_on; o_law; k_head; (case hw => w_witness2)
  k_fill
  refine L2.walk_of (l := PySem.Challenge.rw_pagelodge_k17_what_may_be_served) (n := 63) (k := 6) (x := "_law_script") (CX := fun _ => L2.CX0) (sp := fun w => My.spLaw _) rfl (by decide) rfl ⟨rfl, by decide, by decide⟩ (fun w h Y => PySem.W.kIn_of Y) ?F (fun _ _ a ns hl _ hS => ⟨a, ns, rfl, hS, hl, fun _ => rfl⟩) (fun _ _ _ _ _ h => h)
  case F =>
    intro w mg fa h KX G hmg
    refine' My.all_mk KX G hmg ?aC_Rule ?pg_Rule ?hd_Rule ?po_Rule ?sa_Rule ?mk_Rule ?kc_Rule ?n_Rule_keep ?n_Rule_worn ?n_Rule_alone ?n_Rule_anew ?n_Rule_own ?n_Rule_common ?n_Rule_never ?n_Rule_strict ?aC_Wish ?pg_Wish ?hd_Wish ?po_Wish ?sa_Wish ?mk_Wish ?kc_Wish ?n_Wish_atmost ?n_Wish_left ?n_Wish_worn ?n_Wish_anew ?n_Wish_kept ?n_Wish_firm ?a0 ?l0 ?c0 ?k0 ?a1 ?l1 ?c1 ?k1 ?a2 ?l2 ?c2 ?k2 ?a3 ?l3 ?c3 ?k3 ?a4 ?l4 ?c4 ?k4 ?a5 ?l5 ?c5 ?k5 ?a6 ?l6 ?c6 ?k6 ?a7 ?l7 ?c7 ?k7 ?a8 ?l8 ?c8 ?k8 ?a9 ?l9 ?c9 ?k9 ?a10 ?l10 ?c10 ?k10 ?a11 ?l11 ?c11 ?k11 ?a12 ?l12 ?c12 ?k12 ?y_serves_alone ?a13 ?l13 ?c13 ?k13 ?a14 ?l14 ?c14 ?k14 ?a15 ?l15 ?c15 ?k15 ?a16 ?l16 ?c16 ?k16 ?a17 ?l17 ?c17 ?k17 ?a18 ?l18 ?c18 ?k18 ?a19 ?l19 ?c19 ?k19 ?a20 ?l20 ?c20 ?k20 ?a21 ?l21 ?c21 ?k21 ?a22_Rule ?i22 ?l22 ?c22 ?k22 ?y_Rule_init_keep ?y_Rule_init_worn ?y_Rule_init_alone ?y_Rule_init_anew ?y_Rule_init_own ?y_Rule_init_common ?y_Rule_init_never ?y_Rule_init_strict ?a23_Wish ?i23 ?l23 ?c23 ?k23 ?y_Wish_init_atmost ?y_Wish_init_left ?y_Wish_init_worn ?y_Wish_init_anew ?y_Wish_init_kept ?y_Wish_init_firm ?x_LETTERS ?x_FIGURES ?x_LONGEST_NAME ?x_MOST_FIGURES ?x_RULE_NUMBERS ?y_RULE_NUMBERS ?x_RULE_TRUTHS ?y_RULE_TRUTHS ?x_WISH_NUMBERS ?y_WISH_NUMBERS ?x_WISH_TRUTHS ?y_WISH_TRUTHS ?x_SERVED ?y_SERVED ?z_all ?z_enumerate ?z_int ?z_isinstance ?z_len ?z_list ?z_max ?z_min ?z_range ?z_str
    (case aC_Rule => k_is)
    (case pg_Rule => k_is)
    (case hd_Rule => k_is)
    (case po_Rule => k_is)
    (case sa_Rule => k_is)
    (case mk_Rule => k_is)
    (case kc_Rule => k_is)
    (case n_Rule_keep => k_is)
    (case n_Rule_worn => k_is)
    (case n_Rule_alone => k_is)
    (case n_Rule_anew => k_is)
    (case n_Rule_own => k_is)
    (case n_Rule_common => k_is)
    (case n_Rule_never => k_is)
    (case n_Rule_strict => k_is)
    (case aC_Wish => k_is)
    (case pg_Wish => k_is)
    (case hd_Wish => k_is)
    (case po_Wish => k_is)
    (case sa_Wish => k_is)
    (case mk_Wish => k_is)
    (case kc_Wish => k_is)
    (case n_Wish_atmost => k_is)
    (case n_Wish_left => k_is)
    (case n_Wish_worn => k_is)
    (case n_Wish_anew => k_is)
    (case n_Wish_kept => k_is)
    (case n_Wish_firm => k_is)
    (case a0 => k_is)
    (case l0 => k_is)
    (case c0 => k_is)
    (case k0 => k_is)
    (case a1 => k_is)
    (case l1 => k_is)
    (case c1 => k_is)
    (case k1 => k_is)
    (case a2 => k_is)
    (case l2 => k_is)
    (case c2 => k_is)
    (case k2 => k_is)
    (case a3 => k_is)
    (case l3 => k_is)
    (case c3 => k_is)
    (case k3 => k_is)
    (case a4 => k_is)
    (case l4 => k_is)
    (case c4 => k_is)
    (case k4 => k_is)
    (case a5 => k_is)
    (case l5 => k_is)
    (case c5 => k_is)
    (case k5 => k_is)
    (case a6 => k_is)
    (case l6 => k_is)
    (case c6 => k_is)
    (case k6 => k_is)
    (case a7 => k_is)
    (case l7 => k_is)
    (case c7 => k_is)
    (case k7 => k_is)
    (case a8 => k_is)
    (case l8 => k_is)
    (case c8 => k_is)
    (case k8 => k_is)
    (case a9 => k_is)
    (case l9 => k_is)
    (case c9 => k_is)
    (case k9 => k_is)
    (case a10 => k_is)
    (case l10 => k_is)
    (case c10 => k_is)
    (case k10 => k_is)
    (case a11 => k_is)
    (case l11 => k_is)
    (case c11 => k_is)
    (case k11 => k_is)
    (case a12 => k_is)
    (case l12 => k_is)
    (case c12 => k_is)
    (case k12 => k_is)
    (case y_serves_alone => k_is)
    (case a13 => k_is)
    (case l13 => k_is)
    (case c13 => k_is)
    (case k13 => k_is)
    (case a14 => k_is)
    (case l14 => k_is)
    (case c14 => k_is)
    (case k14 => k_is)
    (case a15 => k_is)
    (case l15 => k_is)
    (case c15 => k_is)
    (case k15 => k_is)
    (case a16 => k_is)
    (case l16 => k_is)
    (case c16 => k_is)
    (case k16 => k_is)
    (case a17 => k_is)
    (case l17 => k_is)
    (case c17 => k_is)
    (case k17 => k_is)
    (case a18 => k_is)
    (case l18 => k_is)
    (case c18 => k_is)
    (case k18 => k_is)
    (case a19 => k_is)
    (case l19 => k_is)
    (case c19 => k_is)
    (case k19 => k_is)
    (case a20 => k_is)
    (case l20 => k_is)
    (case c20 => k_is)
    (case k20 => k_is)
    (case a21 => k_is)
    (case l21 => k_is)
    (case c21 => k_is)
    (case k21 => k_is)
    (case a22_Rule => k_is)
    (case i22 => k_is)
    (case l22 => k_is)
    (case c22 => k_is)
    (case k22 => k_is)
    (case y_Rule_init_keep => k_is)
    (case y_Rule_init_worn => k_is)
    (case y_Rule_init_alone => k_is)
    (case y_Rule_init_anew => k_is)
    (case y_Rule_init_own => k_is)
    (case y_Rule_init_common => k_is)
    (case y_Rule_init_never => k_is)
    (case y_Rule_init_strict => k_is)
    (case a23_Wish => k_is)
    (case i23 => k_is)
    (case l23 => k_is)
    (case c23 => k_is)
    (case k23 => k_is)
    (case y_Wish_init_atmost => k_is)
    (case y_Wish_init_left => k_is)
    (case y_Wish_init_worn => k_is)
    (case y_Wish_init_anew => k_is)
    (case y_Wish_init_kept => k_is)
    (case y_Wish_init_firm => k_is)
    (case x_LETTERS => k_is)
    (case x_FIGURES => k_is)
    (case x_LONGEST_NAME => k_is)
    (case x_MOST_FIGURES => k_is)
    (case x_RULE_NUMBERS => k_is)
    (case y_RULE_NUMBERS => k_is)
    (case x_RULE_TRUTHS => k_is)
    (case y_RULE_TRUTHS => k_is)
    (case x_WISH_NUMBERS => k_is)
    (case y_WISH_NUMBERS => k_is)
    (case x_WISH_TRUTHS => k_is)
    (case y_WISH_TRUTHS => k_is)
    (case x_SERVED => k_is)
    (case y_SERVED => k_is)
    (case z_all => k_is)
    (case z_enumerate => k_is)
    (case z_int => k_is)
    (case z_isinstance => k_is)
    (case z_len => k_is)
    (case z_list => k_is)
    (case z_max => k_is)
    (case z_min => k_is)
    (case z_range => k_is)
    (case z_str => k_is)
