import PyProof.Rows.All
import Wide.All
import OpenK.AllK
import Wide.FinOn
import HandS.ForMost
import HandS.IsInst
import HandS.Walk
import HandS.Style
import HandS.Evl
import KE.SortData
import HandS.MakeKwOnly
import HandS.SortKw
import HandS.StrMore
import HandS.FStr
import KE.DataMinMax
import HandS.TryOnly
import HandS.Deep
import KE.IntTextLaws
import HandS.Exc
import HandS.ExcOwn
import HandS.ExcField
import HandS.ExcIs
import KE.KExcIs
import HandS.WordsExc
import HandS.ForExc
import HandS.ExcInit
import HandS.CallSlots
import HandS.More
import HandS.SetKeys
import HandS.WordsDict
import HandS.Zip
import HandS.TupAny
import KE.KCallOwn
import HandS.Wide
import HandS.Iter
import HandS.RaiseMore
import PySem.Challenge.RW_pagelodge_k27_answered
set_option Elab.async false
set_option linter.all false
set_option maxRecDepth 100000
set_option maxHeartbeats 4000000
namespace My
open PySem PySem.Spec PyProof.Rows L2 TL
/-- xs == [], xs != []: items of any kind -/
def rEqNil (K : PySem.W.Frag) : R2 := fun x y H Q => ∃ p q xs, x = .ref p ∧ y = .ref q ∧ SqL K H p xs ∧ SqL K H q [] ∧ Q (.bl xs.isEmpty) H
section
variable {X : Cx}
theorem op_eqNil (hu : X.A.units + 64 < cLine) : OpR X (compareOp .Eq) (rEqNil X.K) := by
  intro pins s σ H x y v u Q I rx ry h
  obtain ⟨p, q, xs, rfl, rfl, h1, h2, k⟩ := h
  obtain ⟨its, rv, hl, _⟩ := I.list h1
  obtain ⟨its2, rv2, hl2, _⟩ := I.list h2
  cases (show v = Value.ref p from rx)
  cases (show u = Value.ref q from ry)
  cases rv2
  cases rv with
  | nil => exact SeqAt.eq_listAt (e := fun _ => true) hl.isList hl2.isList rfl (by omega) (fun j h1 _ => absurd h1 (by simp)) ⟨.bl true, H, I, rfl, k⟩
  | cons a b => exact SeqAt.eq_list_lengthsAt hl.isList hl2.isList (by simp) (by omega) ⟨.bl false, H, I, rfl, k⟩
end
/-! ### heaps that change at the well alone -/
def W3 (a b c : Int) : HO := .lst [.int a, .int b, .int c]
def IsW (H : Hp) (W : Addr) : Prop := ∃ a b c, H W = some (W3 a b c)
structure Wx (W : Addr) (H H' : Hp) : Prop where
  keep : ∀ b o, b ≠ W → H b = some o → H' b = some o
  well : IsW H' W
theorem Wx.refl {W : Addr} {H : Hp} (h : IsW H W) : Wx W H H := ⟨fun _ _ _ e => e, h⟩
theorem Wx.trans {W : Addr} {H H1 H2 : Hp} (a : Wx W H H1) (b : Wx W H1 H2) : Wx W H H2 := ⟨fun c o n e => b.keep c o n (a.keep c o n e), b.well⟩
theorem Wx.free {W : Addr} {H H' : Hp} (e : Wx W H H') {p : Addr} (h : H' p = none) : H p = none := by
  cases q : H p with
  | none => rfl
  | some o =>
    by_cases hp : p = W
    · obtain ⟨a, b, c, hw⟩ := e.well
      rw [hp, hw] at h
      cases h
    · rw [e.keep p o hp q] at h
      cases h
theorem Wx.new {W : Addr} {H H' : Hp} (e : Wx W H H') {p : Addr} {o : HO} (h : H' p = none) : Wx W H (upd H' p o) := by
  obtain ⟨k, a, b, c, hw⟩ := e
  refine ⟨fun d u n q => ?_, a, b, c, ?_⟩
  · rw [upd_ne (ne_of_none (k d u n q) h)]
    exact k d u n q
  · rw [upd_ne (ne_of_none hw h)]
    exact hw
theorem Wx.set {W : Addr} {H H' : Hp} (e : Wx W H H') (a b c : Int) : Wx W H (upd H' W (W3 a b c)) := by
  refine ⟨fun d u n q => ?_, a, b, c, upd_same⟩
  rw [upd_ne n]
  exact e.keep d u n q
theorem IsW.ne {H : Hp} {W p : Addr} (h : IsW H W) (hp : H p = none) : W ≠ p := by
  obtain ⟨a, b, c, hw⟩ := h
  exact ne_of_none hw hp
theorem Wx.same {W : Addr} {H H1 H2 : Hp} (a : Wx W H H1) (b : Same H1 H2) : Wx W H H2 := by
  obtain ⟨k, x, y, z, hw⟩ := a
  exact ⟨fun c o n e => b c o (k c o n e), x, y, z, b _ _ hw⟩
/-- a list (other than the well) that is made here may change -/
theorem Wx.mut {W : Addr} {H H' : Hp} (e : Wx W H H') {p : Addr} {o : HO} (h : H p = none) (n : W ≠ p) : Wx W H (upd H' p o) := by
  obtain ⟨k, a, b, c, hw⟩ := e
  refine ⟨fun d u m q => ?_, a, b, c, ?_⟩
  · rw [upd_ne (ne_of_none q h)]
    exact k d u m q
  · rw [upd_ne n]
    exact hw
def spWell : Sp := fun vs H Q _ => ∃ n : Int, vs = [.int n] ∧ ∀ p a b c, H p = none → Q (.ref p) (upd H p (W3 a b c))
def spDraw : Sp := fun vs H Q _ => ∃ (W : Addr) (m : Int), vs = [.ref W, .int m] ∧ 0 < m ∧ m < 1073741824 ∧ IsW H W ∧ ∀ r H', 0 ≤ r → r < m → Wx W H H' → Q (.int r) H'
theorem mod_lt {n m : Int} (h : 0 < m) : 0 ≤ n % m ∧ n % m < m := ⟨Int.emod_nonneg n (by omega), Int.emod_lt_of_pos n h⟩
theorem cmul_of {i j : Int} (h : 0 ≤ i ∧ i < 2147483647) : CMul i j := .inl (by omega)
/-! ### texts and lists -/
theorem atI_in {α : Type} {xs : List α} {r : Int} (h0 : 0 ≤ r) (h1 : r < xs.length) : ∃ c, c ∈ xs ∧ atI xs r = some c := by
  obtain ⟨n, rfl⟩ : ∃ n : Nat, r = n := ⟨r.toNat, by omega⟩
  have hn : n < xs.length := by omega
  exact ⟨xs[n], List.getElem_mem hn, atI_nat (List.getElem?_eq_getElem hn)⟩
theorem len_tl (z : Str) : z.cps.toList.length = z.length := Array.length_toList
theorem joinL_one : ∀ t : List Nat, joinL [] (t.map fun c => [c]) = t
  | [] => rfl
  | [c] => rfl
  | c :: d :: r => by
    show [c] ++ ([] ++ joinL [] ((d :: r).map fun c => [c])) = c :: d :: r
    rw [joinL_one (d :: r)]
    rfl
theorem join_signs (y : Str) (hy : y.cps.toList = []) (t : List Nat) : Txt.join y (t.map fun c => (⟨#[c]⟩ : Str)) = ⟨t.toArray⟩ := by
  have e : tl (Txt.join y (t.map fun c => (⟨#[c]⟩ : Str))) = t := by
    rw [join_eq, tl_join, List.map_map]
    show joinL (y.cps.toList) (t.map fun c => [c]) = t
    rw [hy, joinL_one]
  rw [← mk_tl (Txt.join y (t.map fun c => (⟨#[c]⟩ : Str))), e]
theorem joinL_len (S : List Nat) : ∀ ps : List (List Nat), (joinL S ps).length ≤ (ps.map List.length).sum + ps.length * S.length
  | [] => Nat.zero_le _
  | [p] => by
    show p.length ≤ p.length + 0 + 1 * S.length
    omega
  | p :: q :: r => by
    have ih := joinL_len S (q :: r)
    show (p ++ (S ++ joinL S (q :: r))).length ≤ p.length + ((q :: r).map List.length).sum + ((q :: r).length + 1) * S.length
    rw [List.length_append, List.length_append, Nat.add_mul]
    omega
theorem join_len (y : Str) (ps : List Str) : (Txt.join y ps).length ≤ (ps.map (·.length)).sum + ps.length * y.length := by
  have h := joinL_len (tl y) (ps.map tl)
  rw [← tl_join, ← join_eq, List.map_map, List.length_map] at h
  have e : (ps.map (List.length ∘ tl)) = ps.map (·.length) := List.map_congr_left fun z _ => len_tl z
  rw [e] at h
  have e2 : (tl (Txt.join y ps)).length = (Txt.join y ps).length := len_tl _
  have e3 : (tl y).length = y.length := len_tl _
  rw [e2, e3] at h
  exact h
theorem sum_ones (t : List Nat) : ((t.map fun c => (⟨#[c]⟩ : Str)).map (·.length)).sum = t.length := by
  induction t with
  | nil => rfl
  | cons c r ih =>
    show 1 + ((r.map fun c => (⟨#[c]⟩ : Str)).map (·.length)).sum = r.length + 1
    rw [ih]
    omega
theorem sum_le {b : Nat} : ∀ ps : List Str, (∀ z ∈ ps, z.length ≤ b) → (ps.map (·.length)).sum ≤ ps.length * b
  | [], _ => Nat.zero_le _
  | z :: r, h => by
    have ih := sum_le r fun y hy => h y (List.mem_cons_of_mem _ hy)
    have hz := h z (List.mem_cons_self ..)
    show z.length + (r.map (·.length)).sum ≤ (r.length + 1) * b
    rw [Nat.add_mul]
    omega
theorem len_app (a b : Str) : (a ++ b).length = a.length + b.length := Array.size_append
theorem cutS_len (z : Str) (lo hi : Option Int) : (cutS z lo hi).length ≤ z.length := by
  show ((z.cps.toList.drop _).take _).toArray.size ≤ _
  rw [List.size_toArray, List.length_take, List.length_drop, len_tl]
  omega
theorem szl {n : Nat} (h : n ≤ 100000) : n ≤ sizeLine := Nat.le_trans h (by decide)
theorem szlt {n : Nat} (h : n < 100000) : n < sizeLine := Nat.lt_of_lt_of_le h (by decide)
def spSigns : Sp := fun vs H Q _ => ∃ (W : Addr) (z : Str) (m : Int), vs = [.ref W, .str z, .int m] ∧ 0 < z.length ∧ z.length ≤ 1000 ∧ 0 ≤ m ∧ m ≤ 1000 ∧ IsW H W ∧
  ∀ (t : List Nat) H', t.length = m.toNat → (∀ c ∈ t, c ∈ z.cps.toList) → Wx W H H' → Q (.str ⟨t.toArray⟩) H'
theorem ints_at {ns : List Int} {r : Int} (h0 : 0 ≤ r) (h1 : r < ns.length) : ∃ n, n ∈ ns ∧ atI (ns.map V.int) r = some (.int n) := by
  obtain ⟨v, hv, ev⟩ := atI_in (xs := ns.map V.int) h0 (by rw [List.length_map]; exact h1)
  obtain ⟨n, hn, rfl⟩ := List.mem_map.mp hv
  exact ⟨n, hn, ev⟩
theorem strs_at {ns : List Str} {r : Int} (h0 : 0 ≤ r) (h1 : r < ns.length) : ∃ n, n ∈ ns ∧ atI (ns.map V.str) r = some (.str n) := by
  obtain ⟨v, hv, ev⟩ := atI_in (xs := ns.map V.str) h0 (by rw [List.length_map]; exact h1)
  obtain ⟨n, hn, rfl⟩ := List.mem_map.mp hv
  exact ⟨n, hn, ev⟩
theorem mk_len (t : List Nat) : (⟨t.toArray⟩ : Str).length = t.length := List.size_toArray
def spText (b : Nat) : Sp := fun vs H Q _ => ∃ (W : Addr), vs = [.ref W] ∧ IsW H W ∧ ∀ t H', t.length ≤ b → Wx W H H' → Q (.str t) H'
theorem same_upd {H : Hp} {p : Addr} {o : HO} (h : H p = none) : Same H (upd H p o) := fun b x e => by
  rw [upd_ne (ne_of_none e h)]
  exact e
theorem same_mut {H H' : Hp} {p : Addr} {o : HO} (e : Same H H') (h : H p = none) : Same H (upd H' p o) := fun a u ha => by
  rw [upd_ne (ne_of_none ha h)]
  exact e a u ha
theorem take_map {α β : Type} {xs : List α} {i : Nat} {c : α} (f : α → β) (h : xs[i]? = some c) : (xs.take (i + 1)).map f = (xs.take i).map f ++ [f c] := by
  rw [List.take_add_one, h, List.map_append]
  rfl
theorem at_l {z : Str} {i c : Nat} (h : z.cps[i]? = some c) : z.cps.toList[i]? = some c := by
  rw [Array.getElem?_toList]
  exact h
theorem filter_take {α β : Type} {xs : List α} {i : Nat} {c : α} (p : α → Bool) (f : α → β) (h : xs[i]? = some c) : ((xs.take (i + 1)).filter p).map f = ((xs.take i).filter p).map f ++ (if p c = true then [f c] else []) := by
  rw [List.take_add_one, h, List.filter_append, List.map_append]
  by_cases hp : p c = true
  · rw [if_pos hp]
    simp [hp]
  · rw [if_neg hp]
    simp [hp]
theorem all_filter {α : Type} (p : α → Bool) (xs : List α) : ((xs.filter fun c => !p c)).isEmpty = xs.all p := by
  induction xs with
  | nil => rfl
  | cons a r ih =>
    cases h : p a with
    | true => simp only [List.filter_cons, h, List.all_cons, Bool.not_true, Bool.true_and]; exact ih
    | false => simp [List.filter_cons, h, List.all_cons]
theorem isEmpty_map {α β : Type} (f : α → β) (xs : List α) : (xs.map f).isEmpty = xs.isEmpty := by
  cases xs <;> rfl
theorem str_at {ss : List Str} {i : Nat} {x : V} (h : (ss.map V.str)[i]? = some x) : ∃ y, x = .str y ∧ ss[i]? = some y ∧ y ∈ ss := by
  rw [List.getElem?_map] at h
  cases e : ss[i]? with
  | none =>
    rw [e] at h
    cases h
  | some y =>
    rw [e] at h
    cases h
    exact ⟨y, rfl, rfl, List.mem_of_getElem? e⟩
theorem cutV_map {α : Type} (f : α → V) (ns : List α) (lo hi : Option Int) : ∃ ms : List α, cutV (ns.map f) lo hi = ms.map f ∧ ms.length ≤ ns.length := by
  refine ⟨(ns.drop (HT.sIx ns.length 0 lo)).take (HT.sIx ns.length ns.length hi - HT.sIx ns.length 0 lo), ?_, ?_⟩
  · unfold cutV
    rw [List.length_map, List.map_take, List.map_drop]
  · rw [List.length_take, List.length_drop]
    omega
theorem int_at {ns : List Int} {i : Nat} {x : V} (h : (ns.map V.int)[i]? = some x) : ∃ n, x = .int n := by
  rw [List.getElem?_map] at h
  cases e : ns[i]? with
  | none =>
    rw [e] at h
    cases h
  | some y =>
    rw [e] at h
    cases h
    exact ⟨y, rfl⟩
theorem dp_bools {K : PySem.W.Frag} {H : Hp} : ∀ bs : List Bool, DpAll K H (bs.map V.bl) (bs.map PyData.bool)
  | [] => .nil
  | b :: r => .cons (.bl b) (dp_bools r)
theorem lay_bools : ∀ bs : List Bool, PyData.canLayAll0 (bs.map PyData.bool) = true
  | [] => rfl
  | _ :: r => by simp [PyData.canLayAll0, PyData.canLay0, lay_bools r]
theorem depth_bools : ∀ bs : List Bool, PyData.depthAll (bs.map PyData.bool) = 0
  | [] => rfl
  | _ :: r => by simp [PyData.depthAll, PyData.depth, depth_bools r]
theorem shaped_bools (bs : List Bool) : SeqAt.shaped (.list (bs.map PyData.bool)) = true := by
  simp [SeqAt.shaped, PyData.canLay0, PyData.depth, lay_bools, depth_bools]
theorem eqv_bools (bs : List Bool) : PyData.eqv (.list (bs.map PyData.bool)) (.list (bs.map PyData.bool)) = true := SeqAt.eqv_refl _ (by simp [PyData.canLay0, lay_bools])
def spLaw (K : PySem.W.Frag) : Sp := fun vs H Q _ => ∃ (a : Addr) (ns : List Int), vs = [.ref a] ∧ SqL K H a (ns.map V.int) ∧ ns.length ≤ 63 ∧ ∀ H', Q (.bl true) H'
/-! ### sorted(xs) of data that are alike, any length: the items by letters of a type B, their values, their data -/
section
variable {B : Type} {val : B → V} {enc : B → PyData}
theorem vals_each : ∀ {bs : List B} {us : List Value}, Vals (bs.map val) us → PySem.W.EachIs (fun u b => RelV (val b) u) us bs
  | [], _, r => by
    cases r
    exact .nil
  | b :: bs, _, r => by
    cases r with
    | cons h t => exact .cons h (vals_each t)
theorem each_vals : ∀ {bs : List B} {us : List Value}, PySem.W.EachIs (fun u b => RelV (val b) u) us bs → Vals (bs.map val) us
  | _, _, .nil => .nil
  | _, _, .cons h t => .cons h (each_vals t)
theorem each_reads {X : Cx} {pins : List (Addr × Obj)} {σ : L2.St} {H : Hp} {s : Shared} (I : Inv X pins σ H s) : ∀ {bs : List B} {us : List Value}, (∀ b ∈ bs, Dp X.K H (val b) (enc b)) → PySem.W.EachIs (fun u b => RelV (val b) u) us bs → PySem.W.EachIs (fun u b => ∃ as, Reads s.heap u (enc b) as) us bs
  | _, _, _, .nil => .nil
  | _, _, hd, .cons h t => .cons (Dp.reads I _ _ _ (hd _ (List.mem_cons_self ..)) h) (each_reads I (fun b hb => hd b (List.mem_cons_of_mem _ hb)) t)
def sortB (enc : B → PyData) (bs : List B) : List B := bs.mergeSort (PySem.W.dataLe false enc)
def rSortB (K : PySem.W.Frag) (val : B → V) (enc : B → PyData) : List V → Hp → VK → Prop := fun vs H Q => ∃ (a : Addr) (bs : List B), vs = [V.ref a] ∧ SqL K H a (bs.map val) ∧ (∀ b ∈ bs, Dp K H (val b) (enc b)) ∧ PySem.W.AllAlike (bs.map enc) ∧ PySem.W.Sortable (bs.map enc) ∧
  (∀ b ∈ bs, (enc b).depth ≤ 60) ∧ ∀ p, H p = none → Q (.ref p) (upd H p (.lst ((sortB enc bs).map val)))
theorem cr_sortB {X : Cx} (val : B → V) (enc : B → PyData) (hu : X.A.units + 64 < cLine) : CallR X (.builtin "sorted") (rSortB X.K val enc) := by
  intro pins s σ H vs us Q I r h
  obtain ⟨a, bs, rfl, hs, hd, ha, hk, hdp, q⟩ := h
  obtain ⟨its, rv, hl, hz⟩ := I.list hs
  rw [Vals.ref1 r]
  have e1 := vals_each rv
  rw [List.length_map] at hz
  refine PySem.W.sorted_data (enc := enc) hl.isList e1 (each_reads I hd e1) ha hk hz (fun b hb => by have := hdp b hb; omega) fun out ho eo => ?_
  obtain ⟨ep, he'⟩ := PyProof.Rows.sortedAll_at s.heap its out.toArray
  have hlen : ((sortB enc bs).map val).length ≤ sizeLine := by
    rw [List.length_map]
    unfold sortB
    rw [List.length_mergeSort]
    exact hz
  exact ⟨.ref _, upd H (s.heap.objs.size + 1) (.lst ((sortB enc bs).map val)), I.laid (t' := s.toks) (fun _ _ => PyProof.Rows.sortedAll_old) (Nat.le_succ _) ⟨hlen, out, ep, each_vals eo, he'⟩, rfl, q _ (I.hok.fresh (Nat.le_succ _))⟩
theorem sortB_perm (enc : B → PyData) (bs : List B) : (sortB enc bs).Perm bs := List.mergeSort_perm ..
theorem sortB_sorted (enc : B → PyData) (bs : List B) : (sortB enc bs).Pairwise fun a b => PySem.W.dataLe false enc a b = true := PySem.W.sort_pairwise (PySem.W.sortLe_total _ _ _) bs
end
theorem perm_sorted_eq {α : Type} {r : α → α → Prop} (anti : ∀ a b, r a b → r b a → a = b) : ∀ A B : List α, A.Pairwise r → B.Pairwise r → A.Perm B → A = B
  | [], B, _, _, h => (List.Perm.nil_eq h)
  | a :: A, [], _, _, h => absurd h.length_eq (by simp)
  | a :: A, b :: B, ha, hb, h => by
    have e : a = b := by
      rcases List.mem_cons.mp (h.mem_iff.mp (List.mem_cons_self ..)) with e | e
      · exact e
      · rcases List.mem_cons.mp (h.mem_iff.mpr (List.mem_cons_self ..)) with e' | e'
        · exact e'.symm
        · exact anti a b ((List.pairwise_cons.mp ha).1 b e') ((List.pairwise_cons.mp hb).1 a e)
    subst e
    rw [perm_sorted_eq anti A B (List.pairwise_cons.mp ha).2 (List.pairwise_cons.mp hb).2 (List.Perm.cons_inv h)]
/-! ### pairs of texts, in order -/
def ltS (a b : Str) : Prop := a.cps.toList < b.cps.toList
instance (a b : Str) : Decidable (ltS a b) := inferInstanceAs (Decidable (a.cps.toList < b.cps.toList))
theorem ltS_irr (a : Str) : ¬ ltS a a := List.lt_irrefl _
theorem ltS_trans {a b c : Str} (h : ltS a b) (h2 : ltS b c) : ltS a c := List.lt_trans h h2
theorem ltS_tri (a b : Str) : ltS a b ∨ a = b ∨ ltS b a := by
  by_cases h : ltS a b
  · exact .inl h
  · by_cases h2 : ltS b a
    · exact .inr (.inr h2)
    · exact .inr (.inl (PyProof.Rows.ext_toList (List.le_antisymm (List.not_lt.mp h2) (List.not_lt.mp h))))
def leSS (p q : Str × Str) : Prop := ltS p.1 q.1 ∨ (p.1 = q.1 ∧ ¬ ltS q.2 p.2)
theorem leSS_anti (p q : Str × Str) (h : leSS p q) (h2 : leSS q p) : p = q := by
  obtain ⟨a, b⟩ := p
  obtain ⟨c, d⟩ := q
  rcases h with h | ⟨e, h⟩
  · rcases h2 with h2 | ⟨e2, h2⟩
    · exact absurd (ltS_trans h h2) (ltS_irr _)
    · have e2' : c = a := e2
      subst e2'
      exact absurd h (ltS_irr _)
  · have e' : a = c := e
    subst e'
    rcases h2 with h2 | ⟨e2, h2⟩
    · exact absurd h2 (ltS_irr _)
    · rcases ltS_tri b d with x | x | x
      · exact absurd x h2
      · rw [x]
      · exact absurd x h
theorem dataLe_ss {B : Type} (x y : B → Str) (p q : B) (h : PySem.W.dataLe false (fun b => .tuple [.str (x b), .str (y b)]) p q = true) : leSS (x p, y p) (x q, y q) := by
  have e : PySem.W.dataLt (.tuple [.str (x q), .str (y q)]) (.tuple [.str (x p), .str (y p)]) = false := by
    have h' : (!PySem.W.dataLt (.tuple [.str (x q), .str (y q)]) (.tuple [.str (x p), .str (y p)])) = true := h
    simpa using h'
  rw [PySem.W.dataLt_pair (by simp [PySem.W.alike]) (by simp [PySem.W.alike]), PySem.W.dataLt_str, PySem.W.dataLt_str] at e
  simp only [PyData.eqv, beq_iff_eq] at e
  by_cases h1 : x q = x p
  · rw [if_pos h1] at e
    by_cases h2 : y q = y p
    · refine .inr ⟨h1.symm, fun z => ?_⟩
      have z' : ltS (y q) (y p) := z
      rw [h2] at z'
      exact ltS_irr _ z'
    · rw [if_neg h2] at e
      exact .inr ⟨h1.symm, of_decide_eq_false e⟩
  · rw [if_neg h1] at e
    rcases ltS_tri (x p) (x q) with z | z | z
    · exact .inl z
    · exact absurd z.symm h1
    · exact absurd z (of_decide_eq_false e)
end My
namespace My
open PySem PySem.Spec PyProof.Rows L2 TL
def Asc (z : Str) : Prop := ∀ c ∈ z.cps.toList, c < 128
instance (z : Str) : Decidable (Asc z) := inferInstanceAs (Decidable (∀ c ∈ z.cps.toList, c < 128))
theorem asc_mk {t : List Nat} (h : ∀ c ∈ t, c < 128) : Asc ⟨t.toArray⟩ := fun c hc => h c (by simpa using hc)
theorem asc_app {a b : Str} (ha : Asc a) (hb : Asc b) : Asc (a ++ b) := by
  intro c hc
  have e : (a ++ b).cps.toList = a.cps.toList ++ b.cps.toList := Array.toList_append
  rw [e] at hc
  rcases List.mem_append.mp hc with h | h
  · exact ha c h
  · exact hb c h
theorem asc_cut {z : Str} (h : Asc z) (lo hi : Option Int) : Asc (cutS z lo hi) := by
  refine asc_mk fun c hc => h c ?_
  exact List.mem_of_mem_drop (List.mem_of_mem_take hc)
theorem inV_strs (x : Str) (F : List Str) : inV (.str x) (F.map V.str) = decide (x ∈ F) := by
  unfold inV
  rw [List.any_map, Bool.eq_iff_iff, List.any_eq_true, decide_eq_true_iff]
  constructor
  · rintro ⟨y, hy, e⟩
    have e' : (y == x) = true := e
    rw [← eq_of_beq e']
    exact hy
  · intro h
    exact ⟨x, h, by show (x == x) = true; exact beq_self_eq_true x⟩
theorem flat_strs (F : List Str) : (F.map V.str).all flatV = true := by
  rw [List.all_map, List.all_eq_true]
  intro x _
  rfl
/-! ### texts as data -/
theorem dp_strs {K : PySem.W.Frag} {H : Hp} : ∀ F : List Str, DpAll K H (F.map V.str) (F.map PyData.str)
  | [] => .nil
  | b :: r => .cons (.str b) (dp_strs r)
theorem ok_asc {z : Str} (h : Asc z) : PyData.strOk z = true := by
  unfold PyData.strOk
  rw [Array.all_eq_true']
  intro c hc
  have : c < 128 := h c (by simpa using hc)
  exact decide_eq_true (by omega)
theorem lay_strs : ∀ F : List Str, (∀ z ∈ F, Asc z) → PyData.canLayAll0 (F.map PyData.str) = true
  | [], _ => rfl
  | z :: r, h => by simp [PyData.canLayAll0, PyData.canLay0, ok_asc (h z (List.mem_cons_self ..)), lay_strs r fun y hy => h y (List.mem_cons_of_mem _ hy)]
theorem depth_strs : ∀ F : List Str, PyData.depthAll (F.map PyData.str) = 0
  | [] => rfl
  | _ :: r => by simp [PyData.depthAll, PyData.depth, depth_strs r]
theorem shaped_strs (F : List Str) (h : ∀ z ∈ F, Asc z) : SeqAt.shaped (.list (F.map PyData.str)) = true := by
  simp [SeqAt.shaped, PyData.canLay0, PyData.depth, lay_strs F h, depth_strs]
end My
namespace My
open PySem PySem.Spec PyProof.Rows L2 TL
/-! ### a list or a tuple, whichever stands there -/
def IsS (H : Hp) (a : Addr) (xs : List V) : Prop := H a = some (.lst xs) ∨ H a = some (.tup xs)
theorem IsS.mono {H H' : Hp} {a : Addr} {xs : List V} (e : Same H H') (h : IsS H a xs) : IsS H' a xs := h.elim (fun h => .inl (e _ _ h)) fun h => .inr (e _ _ h)
theorem IsS.or {K : PySem.W.Frag} {H : Hp} {a : Addr} {xs : List V} (h : IsS H a xs) : SqL K H a xs ∨ SqT K H a xs := h.elim (fun h => .inl (SqL.of h)) fun h => .inr (SqT.of h)
theorem IsS.eq {H H' : Hp} {a : Addr} {xs : List V} (e : Same H H') (h : IsS H a xs) : H' a = H a := h.elim (fun h => (e _ _ h).trans h.symm) fun h => (e _ _ h).trans h.symm
def iSeq (K : PySem.W.Frag) (tl : TE) : TI := fun σ H R => tl σ H fun x H1 => ∃ a, x = .ref a ∧ (((∃ xs, SqL K H1 a xs) ∧ R (Itl K a) H1) ∨ ((∃ xs, SqT K H1 a xs) ∧ R (Itt K a) H1))
theorem pi_seq {X : Cx} {tg l : Expr} {tl : TE} (hl : PE X l tl) : PI X tg l (iSeq X.K tl) := by
  refine ⟨fun pins s σ H R I h => ?_⟩
  refine thn (hl.run pins s σ H _ I h) fun v s1 ⟨x, H1, I1, r1, q1⟩ => ?_
  obtain ⟨a, e, q1⟩ := q1
  subst e
  cases r1
  rcases q1 with ⟨⟨xs, hq⟩, q⟩ | ⟨⟨xs, hq⟩, q⟩
  · obtain ⟨its, rv, p, hz⟩ := I1.list hq
    refine wpAny_pyIter_list p.isList ?_
    refine ⟨s1.heap.objs.size, [s1.heap.objs.size], _, _, H1, rfl, I1.kept (t' := s1.toks) fun b o e => Heap.get?_push_of_some _ e, turn_list a _, ⟨_, Heap.get?_push_size _ rfl, rfl, rfl⟩, fun b hb => ?_, q⟩
    have e : b = s1.heap.objs.size := by simpa using hb
    subst e
    exact I1.fpOk (Nat.le_refl _) (I1.hok.fresh (Nat.le_refl _))
  · obtain ⟨its, rv, p, hz⟩ := I1.tuple hq
    refine wpAny_pyIter_tuple (show s1.heap.IsTuple a its.toArray from p) ?_
    refine ⟨s1.heap.objs.size, [s1.heap.objs.size], _, _, H1, rfl, I1.kept (t' := s1.toks) fun b o e => Heap.get?_push_of_some _ e, turn_tuple a _, ⟨_, Heap.get?_push_size _ rfl, rfl, rfl⟩, fun b hb => ?_, q⟩
    have e : b = s1.heap.objs.size := by simpa using hb
    subst e
    exact I1.fpOk (Nat.le_refl _) (I1.hok.fresh (Nat.le_refl _))
/-- a comprehension over either -/
theorem lc_seq {K : PySem.W.Frag} {a : Addr} {xs : List V} {g : TG} {tt : TT} {te : TE} {vs : List Nat} {σ : L2.St} {H1 : Hp} {Qd : Addr → Hp → Prop} (h : IsS H1 a xs) (Pv : Addr → Nat → Hp → Prop) (h0 : ∀ D, H1 D = none → Pv D 0 (upd H1 D (.lst [])))
    (hl : ∀ D i H, H1 D = none → i ≤ xs.length → Pv D i H → H a = H1 a)
    (hs : ∀ D i x H, H1 D = none → xs[i]? = some x → Pv D i H → g x (wipe σ vs) H fun σ2 H2 => wipe σ2 vs = wipe σ vs ∧ tt σ2 H2 fun b H3 =>
      if b = true then te σ2 H3 fun y H4 => ∃ acc, H4 D = some (.lst acc) ∧ acc.length < sizeLine ∧ Pv D (i + 1) (upd H4 D (.lst (acc ++ [y]))) else Pv D (i + 1) H3) (hd : ∀ D H, H1 D = none → Pv D xs.length H → Qd D H) :
    ((∃ xs, SqL K H1 a xs) ∧ ∀ D, H1 D = none → ∃ W : Nat → Nat → Hp → Prop, (∃ m, W 0 m (upd H1 D (.lst []))) ∧ ∀ i m H, W i m H →
      ((Itl K a).stop i H ∧ Qd D H) ∨ ((Itl K a).go i H ∧ ∃ Nx : Hp → Prop, (∀ H', Nx H' → ∃ m', m' < m ∧ W (i + 1) m' H') ∧ ∀ x H', (Itl K a).yld i H x H' → g x (wipe σ vs) H' fun σ2 H2 => wipe σ2 vs = wipe σ vs ∧ tt σ2 H2 fun b H3 =>
        if b = true then te σ2 H3 fun y H4 => ∃ acc, H4 D = some (.lst acc) ∧ acc.length < sizeLine ∧ Nx (upd H4 D (.lst (acc ++ [y]))) else Nx H3)) ∨
    ((∃ xs, SqT K H1 a xs) ∧ ∀ D, H1 D = none → ∃ W : Nat → Nat → Hp → Prop, (∃ m, W 0 m (upd H1 D (.lst []))) ∧ ∀ i m H, W i m H →
      ((Itt K a).stop i H ∧ Qd D H) ∨ ((Itt K a).go i H ∧ ∃ Nx : Hp → Prop, (∀ H', Nx H' → ∃ m', m' < m ∧ W (i + 1) m' H') ∧ ∀ x H', (Itt K a).yld i H x H' → g x (wipe σ vs) H' fun σ2 H2 => wipe σ2 vs = wipe σ vs ∧ tt σ2 H2 fun b H3 =>
        if b = true then te σ2 H3 fun y H4 => ∃ acc, H4 D = some (.lst acc) ∧ acc.length < sizeLine ∧ Nx (upd H4 D (.lst (acc ++ [y]))) else Nx H3)) := by
  rcases h with h | h
  · exact .inl ⟨⟨_, SqL.of h⟩, fun D hD => lc_list (xs := xs) (Pv D) (h0 D hD) (fun i H hi pv => SqL.of ((hl D i H hD hi pv).trans h)) (fun i x H hx pv => hs D i x H hD hx pv) fun H pv => hd D H hD pv⟩
  · exact .inr ⟨⟨_, SqT.of h⟩, fun D hD => lc_tup (xs := xs) (Pv D) (h0 D hD) (fun i H hi pv => SqT.of ((hl D i H hD hi pv).trans h)) (fun i x H hx pv => hs D i x H hD hx pv) fun H pv => hd D H hD pv⟩
theorem rix_of {K : PySem.W.Frag} {H : Hp} {a : Addr} {xs : List V} {i : Int} {v : V} {Q : VK} (h : IsS H a xs) (e : atI xs i = some v) (q : Q v H) : rIx K (.ref a) (.int i) H Q :=
  h.elim (fun h => .inl ⟨a, xs, i, v, rfl, rfl, SqL.of h, e, q⟩) fun h => .inr (.inl ⟨a, xs, i, v, rfl, rfl, SqT.of h, e, q⟩)
end My
namespace My
open PySem PySem.Spec PyProof.Rows L2 TL
/-! ### calls with keywords: the parameters' values picked out of those that lack and those that are told -/
def pickKw {α : Type} : List (Nat ⊕ Nat) → List α → List α → List α
  | [], _, _ => []
  | .inl i :: r, mv, ws => (mv[i]?).toList ++ pickKw r mv ws
  | .inr i :: r, mv, ws => (ws[i]?).toList ++ pickKw r mv ws
theorem vals_opt {xs : List V} {us : List Value} (r : Vals xs us) (i : Nat) : (xs[i]? = none ∧ us[i]? = none) ∨ ∃ x u, xs[i]? = some x ∧ us[i]? = some u ∧ RelV x u := by
  cases e : xs[i]? with
  | some x =>
    obtain ⟨u, h, ru⟩ := r.get e
    exact .inr ⟨x, u, rfl, h, ru⟩
  | none =>
    have h := List.getElem?_eq_none_iff.mp e
    rw [r.length] at h
    exact .inl ⟨rfl, List.getElem?_eq_none_iff.mpr h⟩
theorem opt_vals {xs : List V} {us : List Value} (r : Vals xs us) (i : Nat) : Vals (xs[i]?).toList (us[i]?).toList := by
  rcases vals_opt r i with ⟨e1, e2⟩ | ⟨x, u, e1, e2, h⟩
  · rw [e1, e2]
    exact .nil
  · rw [e1, e2]
    exact .cons h .nil
theorem pick_vals {mz zs : List V} {mv ws : List Value} (r2 : Vals mz mv) (r3 : Vals zs ws) : ∀ sel : List (Nat ⊕ Nat), Vals (pickKw sel mz zs) (pickKw sel mv ws)
  | [] => .nil
  | .inl i :: r => (opt_vals r2 i).append (pick_vals r2 r3 r)
  | .inr i :: r => (opt_vals r3 i).append (pick_vals r2 r3 r)
theorem pick_rel (sel : List (Nat ⊕ Nat)) {vs mz zs : List V} {us mv ws : List Value} (r1 : Vals vs us) (r2 : Vals mz mv) (r3 : Vals zs ws) : Vals (vs ++ pickKw sel mz zs) (us ++ pickKw sel mv ws) := r1.append (pick_vals r2 r3 sel)
/-! ### an expression, a test, by what it gives: the rest is read once -/
section
variable {X : Cx}
def tPure (t : TE) : TE := fun σ H Q => ∃ v, t σ H (fun y H' => y = v ∧ H' = H) ∧ Q v H
theorem pe_pure {e : Expr} {t : TE} (h : PE X e t) : PE X e (tPure t) := by
  refine ⟨fun pins s σ H Q I hw => ?_⟩
  obtain ⟨v, h1, h2⟩ := hw
  refine thn (h.run pins s σ H _ I h1) fun u s1 ⟨x, H1, I1, r1, q1⟩ => ?_
  obtain ⟨rfl, rfl⟩ := q1
  exact ⟨x, H1, I1, r1, h2⟩
def tPureT (t : TT) : TT := fun σ H Q => ∃ b, t σ H (fun y H' => y = b ∧ H' = H) ∧ Q b H
theorem pt_pure {e : Expr} {t : TT} (h : PT X e t) : PT X e (tPureT t) := by
  refine ⟨fun pins s σ H Q I hw => ?_⟩
  obtain ⟨v, h1, h2⟩ := hw
  refine thn (h.run pins s σ H _ I h1) fun u s1 ⟨H1, I1, q1⟩ => ?_
  obtain ⟨rfl, rfl⟩ := q1
  exact ⟨H1, I1, h2⟩
def tMid (t : TE) : TE := fun σ H Q => ∃ R : VK, t σ H R ∧ ∀ v H', R v H' → Q v H'
theorem pe_mid {e : Expr} {t : TE} (h : PE X e t) : PE X e (tMid t) := by
  refine ⟨fun pins s σ H Q I hw => ?_⟩
  obtain ⟨R, h1, h2⟩ := hw
  exact thn (h.run pins s σ H _ I h1) fun u s1 ⟨x, H1, I1, r1, q1⟩ => ⟨x, H1, I1, r1, h2 _ _ q1⟩
def tMidT (t : TT) : TT := fun σ H Q => ∃ R : Bool → Hp → Prop, t σ H R ∧ ∀ b H', R b H' → Q b H'
theorem pt_mid {e : Expr} {t : TT} (h : PT X e t) : PT X e (tMidT t) := by
  refine ⟨fun pins s σ H Q I hw => ?_⟩
  obtain ⟨R, h1, h2⟩ := hw
  exact thn (h.run pins s σ H _ I h1) fun u s1 ⟨H1, I1, q1⟩ => ⟨H1, I1, h2 _ _ q1⟩
end
/-! ### fields -/
theorem len_putF (f : Str) (v : V) : ∀ fs : List (Str × V), (putF f v fs).length ≤ fs.length + 1
  | [] => Nat.le_refl _
  | (g, x) :: r => by
    unfold putF
    split
    · exact Nat.le_succ _
    · exact Nat.succ_le_succ (len_putF f v r)
theorem few {n : Nat} {f : Str} {v : V} {fs : List (Str × V)} (h : fs.length ≤ n) : (putF f v fs).length ≤ n + 1 := Nat.le_trans (len_putF f v fs) (Nat.succ_le_succ h)
theorem few0 : ([] : List (Str × V)).length ≤ 0 := Nat.le_refl _
theorem fewL {n m : Nat} (h : n ≤ m) (k : m < 1000) : n < 1000 := Nat.lt_of_le_of_lt h k
theorem ne_same {K : PySem.W.Frag} {H : Hp} {x y : V} {d : PyData} {Q : VK} (hx : Dp K H x d) (hy : Dp K H y d) (sh : SeqAt.shaped d = true) (q : Q (.bl false) H) : rNeD K x y H Q := by
  refine ⟨d, d, hx, hy, sh, sh, ?_⟩
  rw [SeqAt.eqv_refl _ (SeqAt.canLay_of_shaped sh)]
  exact q
theorem kit2 {K : PySem.W.Frag} {n m : String} {b : Bool} (h : kitB n m = some b) : PySem.W.kitOne K (.type n) (.type m) = some b := kit_ty h
def oV : Option Int → V
  | none => .non
  | some n => .int n
def od : Option Int → PyData
  | none => .none
  | some n => .int n
theorem dp_od {K : PySem.W.Frag} {H : Hp} (x : Option Int) : Dp K H (oV x) (od x) := by
  cases x with
  | none => exact .non
  | some n => exact .int n
end My
namespace My
open PySem PySem.Spec PyProof.Rows L2 TL
/-! ### min(xs, default=d), max(xs, default=d) of ints -/
def minI : List Int → Option Int
  | [] => none
  | n :: ns => some (ns.foldl min n)
def maxI : List Int → Option Int
  | [] => none
  | n :: ns => some (ns.foldl max n)
def orV (d : V) : Option Int → V
  | none => d
  | some m => .int m
theorem dp_ints {K : PySem.W.Frag} {H : Hp} : ∀ ns : List Int, DpAll K H (ns.map V.int) (ns.map PyData.int)
  | [] => .nil
  | b :: r => .cons (.int b) (dp_ints r)
theorem depth_ints : ∀ ns : List Int, PyData.depthAll (ns.map PyData.int) = 0
  | [] => rfl
  | _ :: r => by simp [PyData.depthAll, PyData.depth, depth_ints r]
theorem alike_ints (ns : List Int) : PySem.W.AlikeAll (ns.map PyData.int) := by
  refine ⟨fun x hx y hy => ?_, fun x hx => ?_⟩
  · obtain ⟨a, _, rfl⟩ := List.mem_map.mp hx
    obtain ⟨b, _, rfl⟩ := List.mem_map.mp hy
    simp [PySem.W.alike]
  · obtain ⟨a, _, rfl⟩ := List.mem_map.mp hx
    intro z
    cases z
def rDf (K : PySem.W.Frag) (f : List Int → Option Int) : List V → List V → Hp → VK → Prop := fun xs zs H Q => ∃ (a : Addr) (ns : List Int) (d : V), xs = [.ref a] ∧ zs = [d] ∧ SqL K H a (ns.map V.int) ∧ Q (orV d (f ns)) H
theorem cr_minDf {X : Cx} (hc : X.calm = true) (hu : X.A.units + 64 < cLine) : CallRK X (.builtin "min") ["default"] (rDf X.K minI) := by
  intro pins s σ H xs zs us ws Q I r rz h
  obtain ⟨a, ns, d, rfl, rfl, hs, q⟩ := h
  obtain ⟨its, rv, hl, _⟩ := I.list hs
  rw [Vals.ref1 r]
  obtain ⟨u, rfl, ru⟩ := rz.one
  obtain ⟨as, ra⟩ := Dp.readsAll I _ _ _ (dp_ints ns) rv
  refine PySem.W.min_list_default (xs := ns.map PyData.int) (I.ok.hd hc) hl.isList (by simpa using ra) (alike_ints ns) (by rw [depth_ints]; omega) (fun e h' tk hk => ?_) (fun y ys i v h' tk bs e hv rd hk => ?_)
  · cases ns with
    | nil => exact ⟨d, H, I.kept hk, ru, q⟩
    | cons n r => cases e
  · cases ns with
    | nil => cases e
    | cons n r =>
      cases e
      rw [PySem.W.minD_ints] at rd
      cases rd
      exact ⟨.int _, H, I.kept hk, ⟨_, rfl⟩, q⟩
theorem cr_maxDf {X : Cx} (hc : X.calm = true) (hu : X.A.units + 64 < cLine) : CallRK X (.builtin "max") ["default"] (rDf X.K maxI) := by
  intro pins s σ H xs zs us ws Q I r rz h
  obtain ⟨a, ns, d, rfl, rfl, hs, q⟩ := h
  obtain ⟨its, rv, hl, _⟩ := I.list hs
  rw [Vals.ref1 r]
  obtain ⟨u, rfl, ru⟩ := rz.one
  obtain ⟨as, ra⟩ := Dp.readsAll I _ _ _ (dp_ints ns) rv
  refine PySem.W.max_list_default (xs := ns.map PyData.int) (I.ok.hd hc) hl.isList (by simpa using ra) (alike_ints ns) (by rw [depth_ints]; omega) (fun e h' tk hk => ?_) (fun y ys i v h' tk bs e hv rd hk => ?_)
  · cases ns with
    | nil => exact ⟨d, H, I.kept hk, ru, q⟩
    | cons n r => cases e
  · cases ns with
    | nil => cases e
    | cons n r =>
      cases e
      rw [PySem.W.maxD_ints] at rd
      cases rd
      exact ⟨.int _, H, I.kept hk, ⟨_, rfl⟩, q⟩
/-! ### x is True, x is False, whatever x is -/
def rIsA : R2 := fun x y H Q => ∃ b : Bool, y = .bl b ∧ Q (.bl (decide (x = .bl b))) H
def rNotA : R2 := fun x y H Q => ∃ b : Bool, y = .bl b ∧ Q (.bl (!decide (x = .bl b))) H
theorem op_isA {X : Cx} : OpR X (compareOp .Is) rIsA := by
  intro pins s σ H x y v u Q I rx ry h
  obtain ⟨b, rfl, q⟩ := h
  cases (show u = Value.bool b from ry)
  cases x with
  | bl a =>
    cases (show v = Value.bool a from rx)
    by_cases e : a = b
    · subst e
      exact wpAny_is_self rfl ⟨.bl true, H, I, rfl, by simpa using q⟩
    · exact wpAny_is_other rfl (fun z => e (Value.bool.inj z)) ⟨.bl false, H, I, rfl, by simpa [e] using q⟩
  | non =>
    cases (show v = Value.none from rx)
    exact wpAny_is_other rfl (fun z => by cases z) ⟨.bl false, H, I, rfl, by simpa using q⟩
  | int i =>
    obtain ⟨t, rfl⟩ := rx
    exact wpAny_is_other rfl (fun z => by cases z) ⟨.bl false, H, I, rfl, by simpa using q⟩
  | str i =>
    obtain ⟨t, rfl⟩ := rx
    exact wpAny_is_other rfl (fun z => by cases z) ⟨.bl false, H, I, rfl, by simpa using q⟩
  | byt i =>
    obtain ⟨t, rfl⟩ := rx
    exact wpAny_is_other rfl (fun z => by cases z) ⟨.bl false, H, I, rfl, by simpa using q⟩
  | flt i =>
    obtain ⟨t, rfl⟩ := rx
    exact wpAny_is_other rfl (fun z => by cases z) ⟨.bl false, H, I, rfl, by simpa using q⟩
  | ref i =>
    cases (show v = Value.ref i from rx)
    exact wpAny_is_other rfl (fun z => by cases z) ⟨.bl false, H, I, rfl, by simpa using q⟩
  | ty i =>
    cases (show v = Value.type i from rx)
    exact wpAny_is_other rfl (fun z => by cases z) ⟨.bl false, H, I, rfl, by simpa using q⟩
theorem op_notA {X : Cx} : OpR X (compareOp .IsNot) rNotA := by
  intro pins s σ H x y v u Q I rx ry h
  obtain ⟨b, rfl, q⟩ := h
  cases (show u = Value.bool b from ry)
  cases x with
  | bl a =>
    cases (show v = Value.bool a from rx)
    by_cases e : a = b
    · subst e
      exact wpAny_isNot_self rfl ⟨.bl false, H, I, rfl, by simpa using q⟩
    · exact wpAny_isNot_other rfl (fun z => e (Value.bool.inj z)) ⟨.bl true, H, I, rfl, by simpa [e] using q⟩
  | non =>
    cases (show v = Value.none from rx)
    exact wpAny_isNot_other rfl (fun z => by cases z) ⟨.bl true, H, I, rfl, by simpa using q⟩
  | int i =>
    obtain ⟨t, rfl⟩ := rx
    exact wpAny_isNot_other rfl (fun z => by cases z) ⟨.bl true, H, I, rfl, by simpa using q⟩
  | str i =>
    obtain ⟨t, rfl⟩ := rx
    exact wpAny_isNot_other rfl (fun z => by cases z) ⟨.bl true, H, I, rfl, by simpa using q⟩
  | byt i =>
    obtain ⟨t, rfl⟩ := rx
    exact wpAny_isNot_other rfl (fun z => by cases z) ⟨.bl true, H, I, rfl, by simpa using q⟩
  | flt i =>
    obtain ⟨t, rfl⟩ := rx
    exact wpAny_isNot_other rfl (fun z => by cases z) ⟨.bl true, H, I, rfl, by simpa using q⟩
  | ref i =>
    cases (show v = Value.ref i from rx)
    exact wpAny_isNot_other rfl (fun z => by cases z) ⟨.bl true, H, I, rfl, by simpa using q⟩
  | ty i =>
    cases (show v = Value.type i from rx)
    exact wpAny_isNot_other rfl (fun z => by cases z) ⟨.bl true, H, I, rfl, by simpa using q⟩
end My
namespace Lx
open PySem PySem.Spec PyProof.Rows L2 TL
/-! ### readings of data: what must hold so that a value of which Q holds is given, or an error of which X holds is raised -/
structure Ex where
  C : Str
  fs : List (Str × PyData)
abbrev D (α : Type) := (α → Prop) → (Ex → Prop) → Prop
@[reducible] def D.pure {α : Type} (a : α) : D α := fun Q _ => Q a
@[reducible] def D.bind {α β : Type} (m : D α) (f : α → D β) : D β := fun Q X => m (fun a => f a Q X) X
@[reducible] def D.need {α : Type} (p : Prop) (m : D α) : D α := fun Q X => p ∧ m Q X
@[reducible] def D.any {α : Type} (p : α → Prop) : D α := fun Q _ => ∀ a, p a → Q a
@[reducible] def D.nox {γ : Type} (m : D γ) : D γ := fun Q _ => m Q (fun _ => False)
/-! ### data in a heap: the thing itself in J, what it is made of in I -/
structure Rp (α : Type) where
  top : Hp → Hp → V → α → Prop
  mono : ∀ {J J' I I' : Hp} {v : V} {a : α}, Same J J' → Same I I' → top J I v a → top J' I' v a
abbrev Rp.rep {α : Type} (R : Rp α) (I : Hp) (v : V) (a : α) : Prop := R.top I I v a
theorem Rp.mn {α : Type} (R : Rp α) {I I' : Hp} {v : V} {a : α} (s : Same I I') (h : R.rep I v a) : R.rep I' v a := R.mono s s h
theorem Rp.up {α : Type} (R : Rp α) {I J : Hp} {v : V} {a : α} (s : Same I J) (h : R.rep I v a) : R.top J I v a := R.mono s (Same.refl _) h
structure Rps (β : Type) where
  top : Hp → Hp → List V → β → Prop
  mono : ∀ {J J' I I' : Hp} {v : List V} {a : β}, Same J J' → Same I I' → top J I v a → top J' I' v a
abbrev Rps.rep {β : Type} (R : Rps β) (I : Hp) (v : List V) (a : β) : Prop := R.top I I v a
def rI : Rp Int := ⟨fun _ _ v n => v = .int n, fun _ _ h => h⟩
def rB : Rp Bool := ⟨fun _ _ v n => v = .bl n, fun _ _ h => h⟩
def rN : Rp Unit := ⟨fun _ _ v _ => v = .non, fun _ _ h => h⟩
def rS : Rp Str := ⟨fun _ _ v z => v = .str z ∧ My.Asc z ∧ z.length ≤ sizeLine, fun _ _ h => h⟩
/-- a sign, by its code -/
def rC : Rp Nat := ⟨fun _ _ v c => v = .str ⟨#[c]⟩ ∧ c < 128, fun _ _ h => h⟩
def rO {α : Type} (R : Rp α) : Rp (Option α) := ⟨fun J I v o => match o with | none => v = .non | some a => v ≠ .non ∧ R.top J I v a, fun {J J' I I' v o} s t h => by
  cases o with
  | none => exact h
  | some a => exact ⟨h.1, R.mono s t h.2⟩⟩
theorem prd_mono {α : Type} (R : Rp α) {I I' : Hp} (s : Same I I') {vs : List V} {xs : List α} (h : Paired (R.rep I) vs xs) : Paired (R.rep I') vs xs := Paired.mono (fun _ _ h => R.mn s h) h
theorem prd_len {α : Type} {R : V → α → Prop} {vs : List V} {xs : List α} (h : Paired R vs xs) : vs.length = xs.length := Paired.length h
def rL {α : Type} (R : Rp α) : Rp (List α) := ⟨fun J I v xs => ∃ a vs, v = .ref a ∧ J a = some (.lst vs) ∧ xs.length ≤ sizeLine ∧ Paired (R.rep I) vs xs, fun s t ⟨a, vs, e, h, l, p⟩ => ⟨a, vs, e, s _ _ h, l, prd_mono R t p⟩⟩
theorem Same.seqT {K : PySem.W.Frag} {H H' : Hp} {a : Addr} {xs : List V} (e : Same H H') (h : SqT K H a xs) : SqT K H' a xs := by
  rcases h with h | h
  · rcases h with h | ⟨o, h⟩
    · exact .inl (.inl (e _ _ h))
    · exact .inl (.inr ⟨o, e _ _ h⟩)
  · exact .inr h
/-- a list that is read alone (the script) -/
structure Scr (α : Type) where
  l : List α
def rScr (K : PySem.W.Frag) {α : Type} (R : Rp α) : Rp (Scr α) := ⟨fun J I v xs => ∃ a vs, v = .ref a ∧ SqL K J a vs ∧ xs.l.length ≤ sizeLine ∧ Paired (R.rep I) vs xs.l, fun s t ⟨a, vs, e, h, l, p⟩ => ⟨a, vs, e, s.seq h, l, prd_mono R t p⟩⟩
/-- tuples of any length -/
structure Tv (α : Type) where
  l : List α
  deriving DecidableEq
def rT (K : PySem.W.Frag) {α : Type} (R : Rp α) : Rp (Tv α) := ⟨fun J I v xs => ∃ a vs, v = .ref a ∧ SqT K J a vs ∧ xs.l.length ≤ sizeLine ∧ Paired (R.rep I) vs xs.l, fun s t ⟨a, vs, e, h, l, p⟩ => ⟨a, vs, e, Same.seqT s h, l, prd_mono R t p⟩⟩
/-- a list or a tuple -/
structure Sq (α : Type) where
  l : List α
def rQ (K : PySem.W.Frag) {α : Type} (R : Rp α) : Rp (Sq α) := ⟨fun J I v xs => ∃ a vs, v = .ref a ∧ (J a = some (.lst vs) ∨ SqT K J a vs) ∧ xs.l.length ≤ sizeLine ∧ Paired (R.rep I) vs xs.l, fun s t ⟨a, vs, e, h, l, p⟩ => ⟨a, vs, e, h.elim (fun h => .inl (s _ _ h)) (fun h => .inr (Same.seqT s h)), l, prd_mono R t p⟩⟩
/-- rows of things of unlike kinds -/
def rs0 : Rps Unit := ⟨fun _ _ vs _ => vs = [], fun _ _ h => h⟩
def rsC {α β : Type} (R : Rp α) (S : Rps β) : Rps (α × β) := ⟨fun J I vs b => ∃ v r, vs = v :: r ∧ R.top J I v b.1 ∧ S.top J I r b.2, fun s t ⟨v, r, e, h, k⟩ => ⟨v, r, e, R.mono s t h, S.mono s t k⟩⟩
/-- tuples of things of unlike kinds -/
structure Tu (β : Type) where
  r : β
  deriving DecidableEq
def rTu (K : PySem.W.Frag) {β : Type} (S : Rps β) : Rp (Tu β) := ⟨fun J I v t => ∃ a vs, v = .ref a ∧ SqT K J a vs ∧ S.rep I vs t.r, fun s t ⟨a, vs, e, h, k⟩ => ⟨a, vs, e, Same.seqT s h, S.mono t t k⟩⟩
/-- what no heap bears -/
def Rp.flat {α : Type} (R : Rp α) : Prop := ∀ J J' I I' v a, R.top J I v a → R.top J' I' v a
theorem flI : rI.flat := fun _ _ _ _ _ _ h => h
theorem flB : rB.flat := fun _ _ _ _ _ _ h => h
theorem flS : rS.flat := fun _ _ _ _ _ _ h => h
theorem flN : rN.flat := fun _ _ _ _ _ _ h => h
theorem flO {α : Type} {R : Rp α} (f : R.flat) : (rO R).flat := fun J J' I I' v o h => by
  cases o with
  | none => exact h
  | some a => exact ⟨h.1, f _ _ _ _ _ _ h.2⟩
/-! ### worlds: what never changes (I), what a slot owns (own), wells (wl) -/
structure Wd where
  I : Hp
  own : Addr → Option Nat
  wl : Addr → Option Nat
abbrev Wd.to (w : Wd) (I : Hp) : Wd := ⟨I, w.own, w.wl⟩
/-- what a slot owns: a tree of objects, each with its place in the tree -/
abbrev Lab := Addr → Option (List (Nat ⊕ Key))
structure Ow (α : Type) where
  top : Hp → Hp → Lab → V → α → Prop
  mono : ∀ {I I' H H' : Hp} {l : Lab} {v : V} {a : α}, Same I I' → (∀ b, l b ≠ none → H' b = H b) → top I H l v a → top I' H' l v a
inductive Ck : Type → Type 1 where
  | p {α : Type} (R : Rp α) : Ck α
  | l {α : Type} (R : Rp α) : Ck (List α)
  | w (k : Nat) : Ck Unit
  | o {α : Type} (F : Ow α) : Ck α
  | x : Ck Unit
structure Cell where
  {α : Type}
  K : Ck α
  i : Nat
  a : α
def Cell.holds (σ : L2.St) (w : Wd) (H : Hp) : Cell → Prop
  | ⟨.p R, i, a⟩ => ∃ v, σ[i]? = some (some v) ∧ R.rep w.I v a
  | ⟨.l R, i, a⟩ => ∃ v, σ[i]? = some (some v) ∧ ∃ L vs, v = .ref L ∧ w.own L = some i ∧ H L = some (.lst vs) ∧ a.length ≤ sizeLine ∧ Paired (R.rep w.I) vs a
  | ⟨.w k, i, _⟩ => ∃ v, σ[i]? = some (some v) ∧ ∃ (W : Addr) (ns : List Int), v = .ref W ∧ w.wl W = some i ∧ H W = some (.lst (ns.map V.int)) ∧ ns.length = k
  | ⟨.o F, i, a⟩ => ∃ v, σ[i]? = some (some v) ∧ ∃ l : Lab, (∀ b, l b ≠ none → w.own b = some i ∧ H b ≠ none) ∧ F.top w.I H l v a
  | ⟨.x, _, _⟩ => True
def look : List Cell → Nat → Option Cell
  | [], _ => none
  | c :: r, i => match Nat.beq c.i i with
    | true => some c
    | false => look r i
theorem look_i {i : Nat} {c : Cell} : ∀ {Γ : List Cell}, look Γ i = some c → c.i = i
  | d :: r, h => by
    unfold look at h
    cases e : Nat.beq d.i i with
    | true =>
      rw [e] at h
      cases h
      exact Nat.eq_of_beq_eq_true e
    | false =>
      rw [e] at h
      exact look_i h
def Hold (σ : L2.St) (w : Wd) (H : Hp) (Γ : List Cell) : Prop := ∀ i c, look Γ i = some c → c.holds σ w H
def Jn (w : Wd) (H : Hp) : Hp := fun b => if w.wl b = none then H b else none
def tp (j : Bool) (w : Wd) (I H : Hp) : Hp := match j with
  | true => Jn w H
  | false => I
/-- from a def's entry to here -/
structure Gf (w0 : Wd) (H0 : Hp) (w : Wd) (H : Hp) : Prop where
  i : Same w0.I w.I
  inew : ∀ b, H0 b ≠ none → w.I b = w0.I b
  onew : ∀ b, H0 b ≠ none → w.own b = none
  wnew : ∀ b, H0 b ≠ none → w.wl b = w0.wl b
  keep : ∀ b o, w0.wl b = none → H0 b = some o → H b = some o
  sub : Same w.I H
  apo : ∀ b i, w.own b = some i → w.I b = none ∧ H b ≠ none ∧ w.wl b = none
  apw : ∀ b i, w.wl b = some i → w.I b = none ∧ H b ≠ none
  wells : ∀ b i ns, w0.wl b = some i → H0 b = some (.lst (List.map V.int ns)) → ∃ ns' : List Int, H b = some (.lst (ns'.map V.int)) ∧ ns'.length = ns.length
  dom : ∀ b, H0 b ≠ none → H b ≠ none
/-- a step that changes wells alone -/
structure Go (w : Wd) (H : Hp) (I' H' : Hp) : Prop where
  i : Same w.I I'
  sub : Same I' H'
  new : ∀ b, H b ≠ none → I' b = w.I b
  kept : ∀ b o, w.wl b = none → H b = some o → H' b = some o
  wells : ∀ b i ns, w.wl b = some i → H b = some (.lst (List.map V.int ns)) → ∃ ns' : List Int, H' b = some (.lst (ns'.map V.int)) ∧ ns'.length = ns.length
  dom : ∀ b, H b ≠ none → H' b ≠ none
structure Fr where
  n : Nat
  w0 : Wd
  H0 : Hp
structure At (φ : Fr) (Γ : List Cell) (σ : L2.St) (w : Wd) (H : Hp) : Prop where
  go : Gf φ.w0 φ.H0 w H
  len : σ.length = φ.n
  hold : Hold σ w H Γ
/-- a step that only adds -/
structure Gw (I H I' H' : Hp) : Prop where
  i : Same I I'
  sub : Same I' H'
  h : Same H H'
  new : ∀ b, H b ≠ none → I' b = I b
theorem Gw.refl {I H : Hp} (s : Same I H) : Gw I H I H := ⟨Same.refl _, s, Same.refl _, fun _ _ => rfl⟩
theorem nn {H : Hp} {b : Addr} {o : HO} (h : H b = some o) : H b ≠ none := by rw [h]; exact fun e => nomatch e
theorem sm {H : Hp} {b : Addr} (h : H b ≠ none) : ∃ o, H b = some o := by
  cases e : H b with
  | none => exact absurd e h
  | some o => exact ⟨o, rfl⟩
theorem Same.nn {H H' : Hp} (s : Same H H') {b : Addr} (h : H b ≠ none) : H' b ≠ none := by
  obtain ⟨o, e⟩ := sm h
  exact Lx.nn (s _ _ e)
theorem Gw.trans {I H I1 H1 I2 H2 : Hp} (a : Gw I H I1 H1) (b : Gw I1 H1 I2 H2) : Gw I H I2 H2 :=
  ⟨a.i.trans b.i, b.sub, a.h.trans b.h, fun c hc => (b.new c (Same.nn a.h hc)).trans (a.new c hc)⟩
theorem Gw.new1 {I H : Hp} {p : Addr} (s : Same I H) (hp : H p = none) (o : HO) : Gw I H (upd I p o) (upd H p o) := by
  have ip : I p = none := s.free hp
  refine ⟨My.same_upd ip, fun b u e => ?_, My.same_upd hp, fun b hb => ?_⟩
  · by_cases q : b = p
    · subst q
      rw [upd_same] at e ⊢
      exact e
    · rw [upd_ne q] at e ⊢
      exact s _ _ e
  · rw [upd_ne (fun q => hb (by rw [q]; exact hp))]
theorem Go.trans {w : Wd} {H I1 H1 I2 H2 : Hp} (a : Go w H I1 H1) (b : Go (w.to I1) H1 I2 H2) : Go w H I2 H2 :=
  ⟨a.i.trans b.i, b.sub, fun c h => (b.new c (a.dom c h)).trans (a.new c h), fun c o n h => b.kept c o n (a.kept c o n h), fun c i ns h1 h2 => by
    obtain ⟨n1, e1, l1⟩ := a.wells c i ns h1 h2
    obtain ⟨n2, e2, l2⟩ := b.wells c i n1 h1 e1
    exact ⟨n2, e2, l2.trans l1⟩, fun c h => b.dom c (a.dom c h)⟩
theorem Go.of_gw {w : Wd} {H I' H' : Hp} (g : Gw w.I H I' H') : Go w H I' H' := ⟨g.i, g.sub, g.new, fun b o _ h => g.h b o h, fun b i ns _ h => ⟨ns, g.h _ _ h, rfl⟩, fun b h => Same.nn g.h h⟩
theorem Gf.go {w0 w : Wd} {H0 H I' H' : Hp} (a : Gf w0 H0 w H) (b : Go w H I' H') : Gf w0 H0 (w.to I') H' :=
  ⟨a.i.trans b.i, fun c h => (b.new c (a.dom c h)).trans (a.inew c h), a.onew, a.wnew, fun c o n h => b.kept c o ((a.wnew c (nn h)).trans n) (a.keep c o n h), b.sub,
    fun c i h => ⟨(b.new c (a.apo c i h).2.1).trans (a.apo c i h).1, b.dom c (a.apo c i h).2.1, (a.apo c i h).2.2⟩, fun c i h => ⟨(b.new c (a.apw c i h).2).trans (a.apw c i h).1, b.dom c (a.apw c i h).2⟩, fun c i ns h1 h2 => by
    obtain ⟨n1, e1, l1⟩ := a.wells c i ns h1 h2
    obtain ⟨n2, e2, l2⟩ := b.wells c i n1 ((a.wnew c (nn h2)).trans h1) e1
    exact ⟨n2, e2, l2.trans l1⟩, fun c h => b.dom c (a.dom c h)⟩
theorem holds_go {w0 w : Wd} {H0 H I' H' : Hp} {σ : L2.St} (a : Gf w0 H0 w H) (b : Go w H I' H') {c : Cell} (h : c.holds σ w H) : c.holds σ (w.to I') H' := by
  obtain ⟨K, i, x⟩ := c
  cases K with
  | p R =>
    obtain ⟨v, e, k⟩ := h
    exact ⟨v, e, R.mn b.i k⟩
  | l R =>
    obtain ⟨v, e, L, vs, e1, e2, e3, e4, e5⟩ := h
    exact ⟨v, e, L, vs, e1, e2, b.kept _ _ (a.apo L i e2).2.2 e3, e4, prd_mono R b.i e5⟩
  | o F =>
    obtain ⟨v, e, l, e1, e2⟩ := h
    exact ⟨v, e, l, fun c hc => ⟨(e1 c hc).1, b.dom c (e1 c hc).2⟩, F.mono b.i (fun c hc => by
      obtain ⟨o, q⟩ := sm (e1 c hc).2
      rw [q]
      exact b.kept c o (a.apo c i (e1 c hc).1).2.2 q) e2⟩
  | w k =>
    obtain ⟨v, e, W, ns, e1, e2, e3, e4⟩ := h
    obtain ⟨ns', f1, f2⟩ := b.wells W i ns e2 e3
    exact ⟨v, e, W, ns', e1, e2, f1, f2.trans e4⟩
  | x => exact h
theorem At.step {φ : Fr} {Γ : List Cell} {σ : L2.St} {w : Wd} {H I' H' : Hp} (a : At φ Γ σ w H) (g : Go w H I' H') : At φ Γ σ (w.to I') H' := ⟨a.go.go g, a.len, fun i c h => holds_go a.go g (a.hold i c h)⟩
theorem Go.rf {w : Wd} {H : Hp} (s : Same w.I H) : Go w H w.I H := .of_gw (.refl s)
theorem jn_some {w : Wd} {H : Hp} {b : Addr} {o : HO} : Jn w H b = some o ↔ w.wl b = none ∧ H b = some o := by
  unfold Jn
  by_cases e : w.wl b = none
  · rw [if_pos e]
    exact ⟨fun h => ⟨e, h⟩, fun h => h.2⟩
  · rw [if_neg e]
    exact ⟨(fun h => nomatch h), fun h => absurd h.1 e⟩
theorem i_jn {w0 w : Wd} {H0 H : Hp} (g : Gf w0 H0 w H) : Same w.I (Jn w H) := fun b o e => by
  refine jn_some.mpr ⟨?_, g.sub _ _ e⟩
  cases q : w.wl b with
  | none => rfl
  | some i =>
    rw [(g.apw b i q).1] at e
    cases e
theorem i_tp {w0 w : Wd} {H0 H : Hp} (j : Bool) (g : Gf w0 H0 w H) : Same w.I (tp j w w.I H) := by
  cases j with
  | true => exact i_jn g
  | false => exact Same.refl _
theorem tp_sub {j : Bool} {w : Wd} {I H : Hp} (s : Same I H) : Same (tp j w I H) H := by
  cases j with
  | true => exact fun b o e => (jn_some.mp e).2
  | false => exact s
theorem tp_go {j : Bool} {w : Wd} {H I' H' : Hp} (g : Go w H I' H') : Same (tp j w w.I H) (tp j w I' H') := by
  cases j with
  | true =>
    intro b o e
    obtain ⟨e1, e2⟩ := jn_some.mp e
    exact jn_some.mpr ⟨e1, g.kept b o e1 e2⟩
  | false => exact g.i
def Ex.rep (e : Ex) (K : PySem.W.Frag) (mg : Str → Option Value) (I : Hp) (c : Value) (d : Option Addr) : Prop := mg e.C = some c ∧ ∃ dx vs, d = some dx ∧ I dx = some (.xd vs) ∧ Paired (fun (p : Str × V) (q : Str × PyData) => p.1 = q.1 ∧ Dp K I p.2 q.2) vs e.fs
/-- the place of a body: the written part, its module's names, what is wanted of an error, how many slots -/
structure Px where
  K : PySem.W.Frag
  mg : Str → Option Value
  E : L2.St → XK
  n : Nat
section
variable {Z : Px} {j : Bool} {Γ : List Cell} {α β γ δ : Type}
/-- an expression -/
def SE (Z : Px) (j : Bool) (Γ : List Cell) (t : TE) (R : Rp α) (m : D α) : Prop :=
  ∀ (φ : Fr) (σ : L2.St) (w : Wd) (H : Hp) (Q : VK) (P : α → Prop) (X : Ex → Prop), φ.n = Z.n → At φ Γ σ w H → m P X →
    (∀ a v I' H', P a → Go w H I' H' → R.top (tp j w I' H') I' v a → Q v H') →
    (∀ e c d I' H', X e → Go w H I' H' → e.rep Z.K Z.mg I' c d → Z.E σ c d H') → t σ H Q
def ST (Z : Px) (Γ : List Cell) (t : TT) (m : D Bool) : Prop :=
  ∀ (φ : Fr) (σ : L2.St) (w : Wd) (H : Hp) (Q : Bool → Hp → Prop) (P : Bool → Prop) (X : Ex → Prop), φ.n = Z.n → At φ Γ σ w H → m P X →
    (∀ a I' H', P a → Go w H I' H' → Q a H') →
    (∀ e c d I' H', X e → Go w H I' H' → e.rep Z.K Z.mg I' c d → Z.E σ c d H') → t σ H Q
def SA (Z : Px) (j : Bool) (Γ : List Cell) (t : TA) (S : Rps β) (m : D β) : Prop :=
  ∀ (φ : Fr) (σ : L2.St) (w : Wd) (H : Hp) (Q : List V → Hp → Prop) (P : β → Prop) (X : Ex → Prop), φ.n = Z.n → At φ Γ σ w H → m P X →
    (∀ a v I' H', P a → Go w H I' H' → S.top (tp j w I' H') I' v a → Q v H') →
    (∀ e c d I' H', X e → Go w H I' H' → e.rep Z.K Z.mg I' c d → Z.E σ c d H') → t σ H Q
theorem xg {X : Ex → Prop} {σ : L2.St} {w : Wd} {H I1 H1 : Hp} (g : Go w H I1 H1) (x : ∀ e c d I' H', X e → Go w H I' H' → e.rep Z.K Z.mg I' c d → Z.E σ c d H') : ∀ e c d I' H', X e → Go (w.to I1) H1 I' H' → e.rep Z.K Z.mg I' c d → Z.E σ c d H' := fun e c d w' H' a b r => x e c d w' H' a (g.trans b) r
theorem At.rf {φ : Fr} {σ : L2.St} {w : Wd} {H : Hp} (a : At φ Γ σ w H) : Go w H w.I H := .rf a.go.sub
theorem se_c {v : V} {R : Rp α} {a : α} (h : ∀ J I, R.top J I v a) : SE Z j Γ (tC v) R (D.pure a) := fun φ σ w H Q P X hn hA hm k _ => k a v w.I H hm hA.rf (h _ _)
theorem se_int {i : Int} : SE Z j Γ (tC (.int i)) rI (D.pure i) := se_c fun _ _ => rfl
theorem se_bl {b : Bool} : SE Z j Γ (tC (.bl b)) rB (D.pure b) := se_c fun _ _ => rfl
theorem se_non : SE Z j Γ (tC .non) rN (D.pure ()) := se_c fun _ _ => rfl
theorem se_noneO {R : Rp α} : SE Z j Γ (tC .non) (rO R) (D.pure none) := se_c fun _ _ => rfl
theorem se_intO {i : Int} : SE Z j Γ (tC (.int i)) (rO rI) (D.pure (some i)) := se_c fun _ _ => (show V.int i ≠ .non ∧ V.int i = .int i from And.intro (fun e => by cases e) rfl)
theorem se_str {z : Str} (l : My.Asc z ∧ z.length ≤ 1000 := by decide) : SE Z j Γ (tC (.str z)) rS (D.pure z) := se_c fun _ _ => ⟨rfl, l.1, Nat.le_trans l.2 (by decide)⟩
theorem se_var {i : Nat} {R : Rp α} {a : α} (h : look Γ i = some ⟨.p R, i, a⟩) : SE Z j Γ (tVar i) R (D.pure a) := fun φ σ w H Q P X hn hA hm k _ => by
  obtain ⟨v, e, r⟩ := hA.hold i _ h
  exact ⟨v, e, k a v w.I H hm hA.rf (R.up (i_tp j hA.go) r)⟩
/-- a list of the slot's own, read -/
theorem se_varl {i : Nat} {R : Rp α} {a : List α} (h : look Γ i = some ⟨.l R, i, a⟩) : SE Z true Γ (tVar i) (rL R) (D.pure a) := fun φ σ w H Q P X hn hA hm k _ => by
  obtain ⟨v, e, L, vs, rfl, e2, e3, e4, e5⟩ := hA.hold i _ h
  exact ⟨_, e, k a _ w.I H hm hA.rf ⟨L, vs, rfl, jn_some.mpr ⟨(hA.go.apo L i e2).2.2, e3⟩, e4, e5⟩⟩
theorem SE.down {t : TE} {R : Rp α} {m : D α} (f : R.flat) (h : SE Z true Γ t R m) : SE Z j Γ t R m := fun φ σ w H Q P X hn hA hm k x => h φ σ w H Q P X hn hA hm (fun a v w' H' pa g r => k a v w' H' pa g (f _ _ _ _ _ _ r)) x
theorem SE.up {t : TE} {R : Rp α} {m : D α} (h : SE Z false Γ t R m) : SE Z j Γ t R m := fun φ σ w H Q P X hn hA hm k x => h φ σ w H Q P X hn hA hm (fun a v I' H' pa g r => k a v I' H' pa g (R.up (i_tp (w := w.to I') j (hA.go.go g)) r)) x
/-- another form of the same data -/
theorem SE.map {t : TE} {R : Rp α} {R' : Rp β} {m : D α} {f : α → β} (c : ∀ J I v a, R.top J I v a → R'.top J I v (f a)) (h : SE Z j Γ t R m) : SE Z j Γ t R' (D.bind m fun a => D.pure (f a)) := fun φ σ w H Q P X hn hA hm k x =>
  h φ σ w H Q _ X hn hA hm (fun a v I' H' pb s r => k _ v I' H' pb s (c _ _ _ _ r)) x
/-- the same data by another name, where something holds -/
theorem SE.cast {t : TE} {R : Rp α} {R' : Rp β} {m : D α} {f : α → D β} (c : ∀ J I v a P X, R.top J I v a → f a P X → ∃ b, P b ∧ R'.top J I v b) (h : SE Z j Γ t R m) : SE Z j Γ t R' (D.bind m f) := fun φ σ w H Q P X hn hA hm k x =>
  h φ σ w H Q _ X hn hA hm (fun a v I' H' pb s r => by
    obtain ⟨b, pb', rb⟩ := c _ _ _ _ _ _ r pb
    exact k b v I' H' pb' s rb) x
/-! ### operators -/
def RO2 (r : R2) (A : Rp α) (B : Rp β) (C : Rp γ) (k : α → β → D γ) : Prop := ∀ (J I H : Hp) (v u : V) (a : α) (b : β) (Q : VK) (P : γ → Prop) (X : Ex → Prop), Same I J → Same J H → A.top J I v a → B.top J I u b → k a b P X →
  (∀ c x I' H', P c → Gw I H I' H' → C.rep I' x c → Q x H') → r v u H Q
theorem se_op {r : R2} {A : Rp α} {B : Rp β} {C : Rp γ} {k : α → β → D γ} {ta tb : TE} {ma : D α} {mb : D β} (ro : RO2 r A B C k) (ha : SE Z true Γ ta A ma) (hb : SE Z true Γ tb B mb) : SE Z j Γ (tOp r ta tb) C (D.bind ma fun a => D.bind mb fun b => k a b) := fun φ σ w H Q P X hn hA hm kk x =>
  ha φ σ w H _ _ X hn hA hm (fun a v I1 H1 pa s1 ra => hb φ σ (w.to I1) H1 _ _ X hn (hA.step s1) pa (fun b u I2 H2 pb s2 rb => ro (Jn w H2) I2 H2 v u a b Q P X (i_jn (w := w.to I2) (hA.step (s1.trans s2)).go) (tp_sub (j := true) s2.sub) (A.mono (tp_go (w := w.to I1) (j := true) s2) s2.i ra) rb pb fun c y I' H' pc g rc =>
    kk c y I' H' pc ((s1.trans s2).trans (.of_gw g)) (C.up (i_tp (w := w.to I') j (hA.step ((s1.trans s2).trans (.of_gw g))).go) rc)) (xg s1 x)) x
def RO1 (r : V → Hp → VK → Prop) (A : Rp α) (C : Rp γ) (k : α → D γ) : Prop := ∀ (J I H : Hp) (v : V) (a : α) (Q : VK) (P : γ → Prop) (X : Ex → Prop), Same I J → Same J H → A.top J I v a → k a P X →
  (∀ c x I' H', P c → Gw I H I' H' → C.rep I' x c → Q x H') → r v H Q
theorem se_un {r : V → Hp → VK → Prop} {A : Rp α} {C : Rp γ} {k : α → D γ} {ta : TE} {ma : D α} (ro : RO1 r A C k) (ha : SE Z true Γ ta A ma) : SE Z j Γ (tUn r ta) C (D.bind ma k) := fun φ σ w H Q P X hn hA hm kk x =>
  ha φ σ w H _ _ X hn hA hm (fun a v I1 H1 pa s1 ra => ro (Jn w H1) I1 H1 v a Q P X (i_jn (w := w.to I1) (hA.step s1).go) (tp_sub (j := true) s1.sub) ra pa fun c y I' H' pc g rc =>
    kk c y I' H' pc (s1.trans (.of_gw g)) (C.up (i_tp (w := w.to I') j (hA.step (s1.trans (.of_gw g))).go) rc)) x
/-- arguments of a built-in -/
def ROA (r : List V → Hp → VK → Prop) (S : Rps β) (C : Rp γ) (k : β → D γ) : Prop := ∀ (J I H : Hp) (vs : List V) (b : β) (Q : VK) (P : γ → Prop) (X : Ex → Prop), Same I J → Same J H → S.top J I vs b → k b P X →
  (∀ c x I' H', P c → Gw I H I' H' → C.rep I' x c → Q x H') → r vs H Q
theorem se_cb {r : List V → Hp → VK → Prop} {S : Rps β} {C : Rp γ} {k : β → D γ} {t : TA} {m : D β} (ro : ROA r S C k) (h : SA Z true Γ t S m) : SE Z j Γ (tCB r t) C (D.bind m k) := fun φ σ w H Q P X hn hA hm kk x =>
  h φ σ w H _ _ X hn hA hm (fun a v I1 H1 pa s1 ra => ro (Jn w H1) I1 H1 v a Q P X (i_jn (w := w.to I1) (hA.step s1).go) (tp_sub (j := true) s1.sub) ra pa fun c y I' H' pc g rc =>
    kk c y I' H' pc (s1.trans (.of_gw g)) (C.up (i_tp (w := w.to I') j (hA.step (s1.trans (.of_gw g))).go) rc)) x
/-- two rows of arguments (by place, by keyword) -/
def ROK (r : List V → List V → Hp → VK → Prop) (S : Rps β) (S2 : Rps δ) (C : Rp γ) (k : β → δ → D γ) : Prop := ∀ (J I H : Hp) (vs us : List V) (b : β) (d : δ) (Q : VK) (P : γ → Prop) (X : Ex → Prop), Same I J → Same J H → S.top J I vs b → S2.top J I us d → k b d P X →
  (∀ c x I' H', P c → Gw I H I' H' → C.rep I' x c → Q x H') → r vs us H Q
theorem se_ck {r : List V → List V → Hp → VK → Prop} {S : Rps β} {S2 : Rps δ} {C : Rp γ} {k : β → δ → D γ} {t u : TA} {m : D β} {m2 : D δ} (ro : ROK r S S2 C k) (ha : SA Z true Γ t S m) (hb : SA Z true Γ u S2 m2) : SE Z j Γ (tCKw r t u) C (D.bind m fun a => D.bind m2 fun b => k a b) := fun φ σ w H Q P X hn hA hm kk x =>
  ha φ σ w H _ _ X hn hA hm (fun a v I1 H1 pa s1 ra => hb φ σ (w.to I1) H1 _ _ X hn (hA.step s1) pa (fun b u I2 H2 pb s2 rb => ro (Jn w H2) I2 H2 v u a b Q P X (i_jn (w := w.to I2) (hA.step (s1.trans s2)).go) (tp_sub (j := true) s2.sub) (S.mono (tp_go (w := w.to I1) (j := true) s2) s2.i ra) rb pb fun c y I' H' pc g rc =>
    kk c y I' H' pc ((s1.trans s2).trans (.of_gw g)) (C.up (i_tp (w := w.to I') j (hA.step ((s1.trans s2).trans (.of_gw g))).go) rc)) (xg s1 x)) x
/-- a method of a built-in type -/
def ROM (r : V → List V → Hp → VK → Prop) (A : Rp α) (S : Rps β) (C : Rp γ) (k : α → β → D γ) : Prop := ∀ (J I H : Hp) (v : V) (us : List V) (a : α) (b : β) (Q : VK) (P : γ → Prop) (X : Ex → Prop), Same I J → Same J H → A.top J I v a → S.top J I us b → k a b P X →
  (∀ c x I' H', P c → Gw I H I' H' → C.rep I' x c → Q x H') → r v us H Q
def TyR (K : PySem.W.Frag) (T : String) (A : Rp α) : Prop := ∀ (J I H : Hp) (v : V) (a : α), Same J H → A.top J I v a → tyV K T v H
theorem se_bm {T : String} {r : V → List V → Hp → VK → Prop} {A : Rp α} {S : Rps β} {C : Rp γ} {k : α → β → D γ} {to : TE} {t : TA} {ma : D α} {mb : D β} (ty : TyR Z.K T A) (ro : ROM r A S C k) (ha : SE Z true Γ to A ma) (hb : SA Z true Γ t S mb) : SE Z j Γ (tBM Z.K T r to t) C (D.bind ma fun a => D.bind mb fun b => k a b) := fun φ σ w H Q P X hn hA hm kk x =>
  ha φ σ w H _ _ X hn hA hm (fun a v I1 H1 pa s1 ra => ⟨ty _ _ H1 v a (tp_sub (j := true) s1.sub) ra, hb φ σ (w.to I1) H1 _ _ X hn (hA.step s1) pa (fun b u I2 H2 pb s2 rb => ro (Jn w H2) I2 H2 v u a b Q P X (i_jn (w := w.to I2) (hA.step (s1.trans s2)).go) (tp_sub (j := true) s2.sub) (A.mono (tp_go (w := w.to I1) (j := true) s2) s2.i ra) rb pb fun c y I' H' pc g rc =>
    kk c y I' H' pc ((s1.trans s2).trans (.of_gw g)) (C.up (i_tp (w := w.to I') j (hA.step ((s1.trans s2).trans (.of_gw g))).go) rc)) (xg s1 x)⟩) x
theorem se_m1 {r : V → List V → Hp → VK → Prop} {B : Rp β} {C : Rp γ} {k : Str → β × Unit → D γ} {to te : TE} {ma : D Str} {mb : D β} (ro : ROM r rS (rsC B rs0) C k) (ha : SE Z true Γ to rS ma) (hb : SE Z true Γ te B mb) : SE Z j Γ (tM1 r to te) C (D.bind ma fun a => D.bind mb fun b => k a (b, ())) := fun φ σ w H Q P X hn hA hm kk x =>
  ha φ σ w H _ _ X hn hA hm (fun a v I1 H1 pa s1 ra => ⟨⟨a, ra.1⟩, hb φ σ (w.to I1) H1 _ _ X hn (hA.step s1) pa (fun b u I2 H2 pb s2 rb => ro (Jn w H2) I2 H2 v [u] a (b, ()) Q P X (i_jn (w := w.to I2) (hA.step (s1.trans s2)).go) (tp_sub (j := true) s2.sub) ra ⟨u, [], rfl, rb, rfl⟩ pb fun c y I' H' pc g rc =>
    kk c y I' H' pc ((s1.trans s2).trans (.of_gw g)) (C.up (i_tp (w := w.to I') j (hA.step ((s1.trans s2).trans (.of_gw g))).go) rc)) (xg s1 x)⟩) x
theorem se_m0 {r : V → List V → Hp → VK → Prop} {C : Rp γ} {k : Str → Unit → D γ} {to : TE} {ma : D Str} (ro : ROM r rS rs0 C k) (ha : SE Z true Γ to rS ma) : SE Z j Γ (tM0 r to) C (D.bind ma fun a => k a ()) := fun φ σ w H Q P X hn hA hm kk x =>
  ha φ σ w H _ _ X hn hA hm (fun a v I1 H1 pa s1 ra => ⟨⟨a, ra.1⟩, ro (Jn w H1) I1 H1 v [] a () Q P X (i_jn (w := w.to I1) (hA.step s1).go) (tp_sub (j := true) s1.sub) ra rfl pa fun c y I' H' pc g rc =>
    kk c y I' H' pc (s1.trans (.of_gw g)) (C.up (i_tp (w := w.to I') j (hA.step (s1.trans (.of_gw g))).go) rc)⟩) x
/-! ### tests -/
theorem st_test {t : TE} {m : D Bool} (h : SE Z true Γ t rB m) : ST Z Γ (tTest t) m := fun φ σ w H Q P X hn hA hm k x => h φ σ w H _ P X hn hA hm (fun a v I' H' pa s r => ⟨a, r, k a I' H' pa s⟩) x
theorem st_val {t : TE} {m : D Bool} (h : SE Z true Γ t rB m) : ST Z Γ (tB t) m := fun φ σ w H Q P X hn hA hm k x => h φ σ w H _ P X hn hA hm (fun a v I' H' pa s r => ⟨a, r, k a I' H' pa s⟩) x
theorem st_yes : ST Z Γ tYes (D.pure true) := fun φ σ w H Q P X hn hA hm k x => k true w.I H hm hA.rf
theorem st_not {t : TT} {m : D Bool} (h : ST Z Γ t m) : ST Z Γ (tNot t) (D.bind m fun b => D.pure (!b)) := fun φ σ w H Q P X hn hA hm k x => h φ σ w H _ _ X hn hA hm (fun a I' H' pa s => k _ I' H' pa s) x
theorem st_and {t u : TT} {m m2 : D Bool} (h : ST Z Γ t m) (h' : ST Z Γ u m2) : ST Z Γ (tAnd t u) (fun P X => m (fun b => if b = true then m2 P X else P false) X) := fun φ σ w H Q P X hn hA hm k x => h φ σ w H _ _ X hn hA hm (fun a I' H' pa s => by
  cases a with
  | true => exact h' φ σ (w.to I') H' _ P X hn (hA.step s) pa (fun b I2 H2 pb s2 => k b I2 H2 pb (s.trans s2)) (xg s x)
  | false => exact k false I' H' pa s) x
theorem st_or {t u : TT} {m m2 : D Bool} (h : ST Z Γ t m) (h' : ST Z Γ u m2) : ST Z Γ (tOr t u) (fun P X => m (fun b => if b = true then P true else m2 P X) X) := fun φ σ w H Q P X hn hA hm k x => h φ σ w H _ _ X hn hA hm (fun a I' H' pa s => by
  cases a with
  | false => exact h' φ σ (w.to I') H' _ P X hn (hA.step s) pa (fun b I2 H2 pb s2 => k b I2 H2 pb (s.trans s2)) (xg s x)
  | true => exact k true I' H' pa s) x
theorem st_andp {t u : TT} {a b : Bool} (h : ST Z Γ t (D.pure a)) (h' : ST Z Γ u (D.pure b)) : ST Z Γ (tAnd t u) (D.pure (a && b)) := by
  cases a with
  | true => exact st_and h h'
  | false => exact st_and h h'
theorem st_orp {t u : TT} {a b : Bool} (h : ST Z Γ t (D.pure a)) (h' : ST Z Γ u (D.pure b)) : ST Z Γ (tOr t u) (D.pure (a || b)) := by
  cases a with
  | true => exact st_or h h'
  | false => exact st_or h h'
theorem se_not {t : TE} {m : D Bool} (h : SE Z true Γ t rB m) : SE Z j Γ (tNotV t) rB (D.bind m fun b => D.pure (!b)) := fun φ σ w H Q P X hn hA hm k x => h φ σ w H _ _ X hn hA hm (fun a v I' H' pa s r => ⟨a, r, k _ _ I' H' pa s rfl⟩) x
theorem se_and {t u : TE} {m m2 : D Bool} (h : SE Z true Γ t rB m) (h' : SE Z true Γ u rB m2) : SE Z j Γ (tAndV t u) rB (fun P X => m (fun b => if b = true then m2 P X else P false) X) := fun φ σ w H Q P X hn hA hm k x => h φ σ w H _ _ X hn hA hm (fun a v I' H' pa s r => ⟨a, r, by
  cases a with
  | true => exact h' φ σ (w.to I') H' _ P X hn (hA.step s) pa (fun b u I2 H2 pb s2 rb => k b u I2 H2 pb (s.trans s2) rb) (xg s x)
  | false => exact k false _ I' H' pa s rfl⟩) x
theorem se_or {t u : TE} {m m2 : D Bool} (h : SE Z true Γ t rB m) (h' : SE Z true Γ u rB m2) : SE Z j Γ (tOrV t u) rB (fun P X => m (fun b => if b = true then P true else m2 P X) X) := fun φ σ w H Q P X hn hA hm k x => h φ σ w H _ _ X hn hA hm (fun a v I' H' pa s r => ⟨a, r, by
  cases a with
  | false => exact h' φ σ (w.to I') H' _ P X hn (hA.step s) pa (fun b u I2 H2 pb s2 rb => k b u I2 H2 pb (s.trans s2) rb) (xg s x)
  | true => exact k true _ I' H' pa s rfl⟩) x
theorem se_andp {t u : TE} {a b : Bool} (h : SE Z true Γ t rB (D.pure a)) (h' : SE Z true Γ u rB (D.pure b)) : SE Z j Γ (tAndV t u) rB (D.pure (a && b)) := by
  cases a with
  | true => exact se_and h h'
  | false => exact se_and h h'
theorem se_orp {t u : TE} {a b : Bool} (h : SE Z true Γ t rB (D.pure a)) (h' : SE Z true Γ u rB (D.pure b)) : SE Z j Γ (tOrV t u) rB (D.pure (a || b)) := by
  cases a with
  | true => exact se_or h h'
  | false => exact se_or h h'
theorem se_if {c : TT} {t u : TE} {R : Rp α} {mc : D Bool} {m m2 : D α} (hc : ST Z Γ c mc) (h : SE Z j Γ t R m) (h' : SE Z j Γ u R m2) : SE Z j Γ (tIf c t u) R (fun P X => mc (fun b => if b = true then m P X else m2 P X) X) := fun φ σ w H Q P X hn hA hm k x => hc φ σ w H _ _ X hn hA hm (fun a I' H' pa s => by
  cases a with
  | true => exact h φ σ (w.to I') H' _ P X hn (hA.step s) pa (fun b u I2 H2 pb s2 rb => k b u I2 H2 pb (s.trans s2) rb) (xg s x)
  | false => exact h' φ σ (w.to I') H' _ P X hn (hA.step s) pa (fun b u I2 H2 pb s2 rb => k b u I2 H2 pb (s.trans s2) rb) (xg s x)) x
theorem se_ifp {c : TT} {t u : TE} {R : Rp α} {b : Bool} {x y : α} (hc : ST Z Γ c (D.pure b)) (h : SE Z j Γ t R (D.pure x)) (h' : SE Z j Γ u R (D.pure y)) : SE Z j Γ (tIf c t u) R (D.pure (if b = true then x else y)) := by
  cases b with
  | true => exact se_if hc h h'
  | false => exact se_if hc h h'
/-! ### arguments, lists, tuples, calls -/
theorem sa_nil : SA Z j Γ tNil rs0 (D.pure ()) := fun φ σ w H Q P X hn hA hm k _ => k () [] w.I H hm hA.rf rfl
theorem sa_cons {t : TE} {u : TA} {R : Rp α} {S : Rps β} {m : D α} {m2 : D β} (h : SE Z j Γ t R m) (h' : SA Z j Γ u S m2) : SA Z j Γ (tCons t u) (rsC R S) (D.bind m fun a => D.bind m2 fun b => D.pure (a, b)) := fun φ σ w H Q P X hn hA hm k x =>
  h φ σ w H _ _ X hn hA hm (fun a v I1 H1 pa s1 ra => h' φ σ (w.to I1) H1 _ _ X hn (hA.step s1) pa (fun b vs I2 H2 pb s2 rb => k _ _ I2 H2 pb (s1.trans s2) ⟨v, vs, rfl, R.mono (tp_go (w := w.to I1) s2) s2.i ra, rb⟩) (xg s1 x)) x
/-- a row of things of one kind, as long as it is written -/
def rsL (R : Rp α) : Rps (List α) := ⟨fun _ I vs xs => Paired (R.rep I) vs xs, fun _ t h => prd_mono R t h⟩
theorem sl_nil {R : Rp α} : SA Z j Γ tNil (rsL R) (D.pure []) := fun φ σ w H Q P X hn hA hm k _ => k [] [] w.I H hm hA.rf .nil
theorem sl_cons {t : TE} {u : TA} {R : Rp α} {m : D α} {m2 : D (List α)} (h : SE Z false Γ t R m) (h' : SA Z false Γ u (rsL R) m2) : SA Z false Γ (tCons t u) (rsL R) (D.bind m fun a => D.bind m2 fun b => D.pure (a :: b)) := fun φ σ w H Q P X hn hA hm k x =>
  h φ σ w H _ _ X hn hA hm (fun a v I1 H1 pa s1 ra => h' φ σ (w.to I1) H1 _ _ X hn (hA.step s1) pa (fun b vs I2 H2 pb s2 rb => k _ _ I2 H2 pb (s1.trans s2) (.cons (R.mn s2.i ra) rb)) (xg s1 x)) x
theorem go_new1 {w : Wd} {H : Hp} {p : Addr} (s : Same w.I H) (hp : H p = none) (o : HO) : Go w H (upd w.I p o) (upd H p o) := .of_gw (Gw.new1 s hp o)
theorem se_lst {t : TA} {R : Rp α} {m : D (List α)} (h : SA Z false Γ t (rsL R) m) : SE Z j Γ (tLst t) (rL R) (D.bind m fun xs => D.need (xs.length ≤ sizeLine) (D.pure xs)) := fun φ σ w H Q P X hn hA hm k x =>
  h φ σ w H _ _ X hn hA hm (fun xs vs I1 H1 pa s1 ra => ⟨by rw [prd_len ra]; exact pa.1, fun p hp => by
    have g := s1.trans (go_new1 (w := w.to I1) s1.sub hp (.lst vs))
    exact k xs _ _ _ pa.2 g ((rL R).up (i_tp (w := w.to _) j (hA.step g).go) ⟨p, vs, rfl, upd_same, pa.1, prd_mono R (My.same_upd (s1.sub.free hp)) ra⟩)⟩) x
/-- a written list, its length plain -/
theorem se_lstp {t : TA} {R : Rp α} {xs : List α} (h : SA Z false Γ t (rsL R) (D.pure xs)) (l : xs.length ≤ sizeLine := by decide) : SE Z j Γ (tLst t) (rL R) (D.pure xs) := fun φ σ w H Q P X hn hA hm k x => se_lst h φ σ w H Q P X hn hA ⟨l, hm⟩ k x
theorem rep_le {S : Rps β} {J I : Hp} {vs : List V} {b : β} (n : Nat) (l : ∀ J I vs b, S.top J I vs b → vs.length = n) (h : S.top J I vs b) (k : n ≤ sizeLine) : vs.length ≤ sizeLine := by rw [l _ _ _ _ h]; exact k
theorem se_tu {t : TA} {S : Rps β} {m : D β} (q : Nat) (h : SA Z false Γ t S m) (l : ∀ J I vs b, S.top J I vs b → vs.length = q) (k : q ≤ sizeLine := by decide) : SE Z j Γ (tTup t) (rTu Z.K S) (D.bind m fun b => D.pure (Tu.mk b)) := fun φ σ w H Q P X hn hA hm kk x =>
  h φ σ w H _ _ X hn hA hm (fun b vs I1 H1 pa s1 ra => ⟨rep_le q l ra k, fun p hp => by
    have g := s1.trans (go_new1 (w := w.to I1) s1.sub hp (.tup vs))
    have s2 := My.same_upd (o := .tup vs) (s1.sub.free hp)
    exact kk _ _ _ _ pa g ((rTu Z.K S).up (i_tp (w := w.to _) j (hA.step g).go) ⟨p, vs, rfl, SqT.of upd_same, S.mono s2 s2 ra⟩)⟩) x
theorem len0 : ∀ (J I : Hp) (vs : List V) (b : Unit), rs0.top J I vs b → vs.length = 0 := fun _ _ _ _ h => by rw [show _ = [] from h]; rfl
theorem lenC {R : Rp α} {S : Rps β} {n : Nat} (l : ∀ J I vs b, S.top J I vs b → vs.length = n) : ∀ (J I : Hp) (vs : List V) (b : α × β), (rsC R S).top J I vs b → vs.length = n + 1 := fun _ _ _ _ ⟨v, r, e, _, h⟩ => by rw [e, List.length_cons, l _ _ _ _ h]
/-- the promise of a def that changes nothing -/
def spF (K : PySem.W.Frag) (mg : Str → Option Value) (S : Rps β) (R : Rp γ) (m : β → D γ) : Sp := fun vs H Q E => ∃ (I : Hp) (b : β) (P : γ → Prop) (X : Ex → Prop), Same I H ∧ S.rep I vs b ∧ m b P X ∧ (∀ c v I' H', P c → Gw I H I' H' → R.rep I' v c → Q v H') ∧ (∀ e c d I' H', X e → Gw I H I' H' → e.rep K mg I' c d → E c d H')
/-- the same of one that raises nothing -/
def spF0 (S : Rps β) (R : Rp γ) (m : β → D γ) : Sp := fun vs H Q _ => ∃ (I : Hp) (b : β) (P : γ → Prop), Same I H ∧ S.rep I vs b ∧ m b P (fun _ => False) ∧ (∀ c v I' H', P c → Gw I H I' H' → R.rep I' v c → Q v H')
theorem spF0.imp {S : Rps β} {R : Rp γ} {m m' : β → D γ} (h : ∀ b P, m' b P (fun _ => False) → m b P (fun _ => False)) : ∀ vs H Q E, spF0 S R m' vs H Q E → spF0 S R m vs H Q E := fun _ _ _ _ ⟨I, b, P, s, r, k, q⟩ => ⟨I, b, P, s, r, h b P k, q⟩
theorem se_call0 {E : XK} {t : TA} {S : Rps β} {R : Rp γ} {mb : D β} {m : β → D γ} (h : SA Z false Γ t S mb) : SE Z j Γ (tCall (spF0 S R m) [] E t) R (D.bind mb fun b => D.nox (m b)) := fun φ σ w H Q P X hn hA hm k x =>
  h φ σ w H _ _ X hn hA hm (fun b vs I1 H1 pa s1 ra => by
    rw [List.append_nil]
    exact ⟨I1, b, P, s1.sub, ra, pa, fun c v I' H' pc g rc => k c v I' H' pc (s1.trans (.of_gw g)) (R.up (i_tp (w := w.to I') j (hA.step (s1.trans (.of_gw g))).go) rc)⟩) x
/-- a call that is handed what may change later: what it gives is flat -/
theorem se_callJ {E : XK} {t : TA} {S : Rps β} {R : Rp γ} {mb : D β} {m : β → D γ} (f : R.flat) (h : SA Z true Γ t S mb) : SE Z j Γ (tCall (spF0 S R m) [] E t) R (D.bind mb fun b => D.nox (m b)) := fun φ σ w H Q P X hn hA hm k x =>
  h φ σ w H _ _ X hn hA hm (fun b vs I1 H1 pa s1 ra => by
    rw [List.append_nil]
    have A1 := hA.step s1
    refine ⟨Jn w H1, b, P, tp_sub (j := true) s1.sub, S.mono (Same.refl _) (i_jn (w := w.to I1) A1.go) ra, pa, fun c v I' H' pc g rc => k c v I1 H' pc (s1.trans ⟨Same.refl _, s1.sub.trans g.h, fun _ _ => rfl, fun b o _ e => g.h b o e, fun b i ns _ e => ⟨ns, g.h _ _ e, rfl⟩, fun b e => Same.nn g.h e⟩) (f _ _ _ _ _ _ rc)⟩) x
end
end Lx
namespace Lx
open PySem PySem.Spec PyProof.Rows L2 TL
section
variable {Z : Px} {j : Bool} {Γ : List Cell} {α β γ δ : Type}
/-! ### slots -/
def HoldC (σ : L2.St) (w : Wd) (H : Hp) (cs : List Cell) : Prop := ∀ c ∈ cs, c.holds σ w H
theorem look_app {i : Nat} {c : Cell} {Γ : List Cell} : ∀ {cs : List Cell}, look (cs ++ Γ) i = some c → c ∈ cs ∨ (i ∉ cs.map (·.i) ∧ look Γ i = some c)
  | [], h => .inr ⟨by simp, h⟩
  | d :: r, h => by
    have h' : (match Nat.beq d.i i with | true => some d | false => look (r ++ Γ) i) = some c := h
    cases e : Nat.beq d.i i with
    | true =>
      rw [e] at h'
      cases h'
      exact .inl (List.mem_cons_self ..)
    | false =>
      rw [e] at h'
      rcases look_app (cs := r) h' with q | ⟨q1, q2⟩
      · exact .inl (List.mem_cons_of_mem _ q)
      · refine .inr ⟨?_, q2⟩
        have n : d.i ≠ i := Nat.ne_of_beq_eq_false e
        rw [List.map_cons, List.mem_cons]
        exact fun z => z.elim (fun z => n z.symm) q1
theorem holds_slot {σ σ' : L2.St} {w : Wd} {H : Hp} {c : Cell} (e : σ'[c.i]? = σ[c.i]?) (h : c.holds σ w H) : c.holds σ' w H := by
  obtain ⟨K, i, x⟩ := c
  cases K with
  | p R =>
    obtain ⟨v, q, k⟩ := h
    exact ⟨v, e.trans q, k⟩
  | l R =>
    obtain ⟨v, q, k⟩ := h
    exact ⟨v, e.trans q, k⟩
  | o F =>
    obtain ⟨v, q, k⟩ := h
    exact ⟨v, e.trans q, k⟩
  | w k =>
    obtain ⟨v, q, k⟩ := h
    exact ⟨v, e.trans q, k⟩
  | x => exact h
theorem hold_tgt {σ σ' : L2.St} {w : Wd} {H : Hp} {cs : List Cell} {is : List Nat} (e : ∀ j, j ∉ is → σ'[j]? = σ[j]?) (ei : cs.map (·.i) = is) (hc : HoldC σ' w H cs) (h : Hold σ w H Γ) : Hold σ' w H (cs ++ Γ) := fun i c q => by
  rcases look_app q with q | ⟨q1, q2⟩
  · exact hc c q
  · rw [ei] at q1
    have := look_i q2
    exact holds_slot (by rw [this]; exact e i q1) (h i c q2)
/-- what nothing is known of -/
def xs (is : List Nat) : List Cell := is.map fun i => ⟨.x, i, ()⟩
theorem xs_i (is : List Nat) : (xs is).map (·.i) = is := by
  unfold xs
  rw [List.map_map]
  exact List.map_id' is
theorem xs_hold {σ : L2.St} {w : Wd} {H : Hp} (is : List Nat) : HoldC σ w H (xs is) := fun c h => by
  obtain ⟨i, _, rfl⟩ := List.mem_map.mp h
  exact trivial
/-- from one row of cells to another -/
def Subs (Γb : List Cell) : List Nat → List Cell → Prop
  | _, [] => True
  | seen, c :: r => (match seen.contains c.i with | true => True | false => (c = ⟨.x, c.i, ()⟩ ∨ look Γb c.i = some c)) ∧ Subs Γb (c.i :: seen) r
theorem subs_look {Γb : List Cell} {i : Nat} {c : Cell} : ∀ {Γt : List Cell} {seen : List Nat}, Subs Γb seen Γt → i ∉ seen → look Γt i = some c → c = ⟨.x, c.i, ()⟩ ∨ look Γb i = some c
  | d :: r, seen, ⟨h, t⟩, n, e => by
    have e' : (match Nat.beq d.i i with | true => some d | false => look r i) = some c := e
    cases q : Nat.beq d.i i with
    | true =>
      rw [q] at e'
      cases e'
      have z : c.i = i := Nat.eq_of_beq_eq_true q
      have ns : seen.contains c.i = false := by rw [z]; simpa using n
      rw [ns] at h
      rw [← z]
      exact h
    | false =>
      rw [q] at e'
      have z : d.i ≠ i := Nat.ne_of_beq_eq_false q
      exact subs_look t (by rw [List.mem_cons]; exact fun y => y.elim (fun y => z y.symm) n) e'
theorem Subs.hold {Γb Γt : List Cell} (s : Subs Γb [] Γt) {σ : L2.St} {w : Wd} {H : Hp} (h : Hold σ w H Γb) : Hold σ w H Γt := fun i c e => by
  rcases subs_look s (by simp) e with q | q
  · rw [q]
    exact trivial
  · exact h i c q
/-! ### targets -/
def SG (K : PySem.W.Frag) (g : TG) (R : Rp α) (is : List Nat) (cs : α → List Cell) : Prop := (∀ a, (cs a).map (·.i) = is) ∧ ∀ (x : V) (a : α) (σ : L2.St) (w : Wd) (H : Hp) (n : Nat) (Q : L2.St → Hp → Prop), σ.length = n → (∀ i ∈ is, i < n) → Same w.I H → R.rep w.I x a →
  (∀ σ' : L2.St, σ'.length = n → (∀ j, j ∉ is → σ'[j]? = σ[j]?) → HoldC σ' w H (cs a) → Q σ' H) → g x σ H Q
def SGs (K : PySem.W.Frag) (g : TGs) (S : Rps β) (is : List Nat) (cs : β → List Cell) : Prop := (∀ a, (cs a).map (·.i) = is) ∧ ∀ (x : List V) (a : β) (σ : L2.St) (w : Wd) (H : Hp) (n : Nat) (Q : L2.St → Hp → Prop), σ.length = n → (∀ i ∈ is, i < n) → Same w.I H → S.rep w.I x a →
  (∀ σ' : L2.St, σ'.length = n → (∀ j, j ∉ is → σ'[j]? = σ[j]?) → HoldC σ' w H (cs a) → Q σ' H) → g x σ H Q
theorem set_at {σ : L2.St} {i : Nat} {v : V} (h : i < σ.length) : (σ.set i (some v))[i]? = some (some v) := by rw [List.getElem?_set_self h]
theorem set_off {σ : L2.St} {i j : Nat} {x : Option V} (h : j ≠ i) : (σ.set i x)[j]? = σ[j]? := List.getElem?_set_ne (fun e => h e.symm)
theorem holdC1 {σ : L2.St} {w : Wd} {H : Hp} {c : Cell} (h : c.holds σ w H) : HoldC σ w H [c] := fun d hd => by
  rw [List.mem_singleton] at hd
  rw [hd]
  exact h
theorem holdCc {σ : L2.St} {w : Wd} {H : Hp} {c : Cell} {cs : List Cell} (h : c.holds σ w H) (t : HoldC σ w H cs) : HoldC σ w H (c :: cs) := fun d hd => by
  rcases List.mem_cons.mp hd with q | q
  · rw [q]
    exact h
  · exact t d q
theorem sg_name {K : PySem.W.Frag} {i : Nat} {R : Rp α} : SG K (gName i) R [i] (fun a => [⟨.p R, i, a⟩]) := ⟨fun _ => rfl, fun x a σ w H n Q hl hi s r k =>
  k _ (by rw [List.length_set]; exact hl) (fun j hj => set_off (by simpa using hj)) (holdC1 ⟨x, set_at (by rw [hl]; exact hi i (by simp)), r⟩)⟩
theorem sgs_nil {K : PySem.W.Frag} : SGs K gNil rs0 [] (fun _ => []) := ⟨fun _ => rfl, fun x a σ w H n Q hl hi s r k => ⟨r, k σ hl (fun _ _ => rfl) (fun c hc => nomatch hc)⟩⟩
theorem sgs_cons {K : PySem.W.Frag} {i : Nat} {R : Rp α} {S : Rps β} {u : TGs} {is : List Nat} {cs : β → List Cell} (h : SGs K u S is cs) (ni : is.contains i = false := by rfl) : SGs K (gCons (gName i) u) (rsC R S) (i :: is) (fun b => ⟨.p R, i, b.1⟩ :: cs b.2) := ⟨fun b => by rw [List.map_cons, h.1], fun x a σ w H n Q hl hi s r k => by
  obtain ⟨v, q, e, r1, r2⟩ := r
  have hiL : i < n := hi i (by simp)
  refine ⟨v, q, e, h.2 q a.2 _ w H n Q (by rw [List.length_set]; exact hl) (fun j hj => hi j (by simp [hj])) s r2 fun σ' hl' he hh => k σ' hl' (fun j hj => ?_) (holdCc ⟨v, ?_, r1⟩ hh)⟩
  · rw [he j (fun z => hj (by simp [z])), set_off (fun z => hj (by simp [z]))]
  · rw [he i (by simpa using ni), set_at (by rw [hl]; exact hiL)]⟩
/-- a target within a target -/
theorem sgs_consT {K : PySem.W.Frag} {g : TG} {R : Rp α} {S : Rps β} {u : TGs} {js is : List Nat} {ds : α → List Cell} {cs : β → List Cell} (h0 : SG K g R js ds) (h : SGs K u S is cs) (ni : js.all (fun i => !is.contains i) = true := by rfl) : SGs K (gCons g u) (rsC R S) (js ++ is) (fun b => ds b.1 ++ cs b.2) := ⟨fun b => by rw [List.map_append, h.1, h0.1], fun x a σ w H n Q hl hi s r k => by
  obtain ⟨v, q, e, r1, r2⟩ := r
  refine ⟨v, q, e, h0.2 v a.1 σ w H n _ hl (fun j hj => hi j (by simp [hj])) s r1 fun σ1 hl1 he1 hh1 => h.2 q a.2 _ w H n Q hl1 (fun j hj => hi j (by simp [hj])) s r2 fun σ' hl' he hh => k σ' hl' (fun j hj => ?_) (fun c hc => ?_)⟩
  · rw [he j (fun z => hj (by simp [z])), he1 j (fun z => hj (by simp [z]))]
  · rcases List.mem_append.mp hc with z | z
    · have zi : c.i ∈ js := by rw [← h0.1 a.1]; exact List.mem_map_of_mem z
      have := List.all_eq_true.mp ni c.i zi
      exact holds_slot (he c.i (by simpa using this)) (hh1 c z)
    · exact hh c z⟩
theorem sg_tup {K : PySem.W.Frag} {S : Rps β} {u : TGs} {is : List Nat} {cs : β → List Cell} {q : Nat} (h : SGs K u S is cs) (l : ∀ J I vs b, S.top J I vs b → vs.length = q) : SG K (gTup K q u) (rTu K S) is (fun t => cs t.r) := ⟨fun t => h.1 t.r, fun x a σ w H m Q hl hi s r k => by
  obtain ⟨p, vs, e, q, r⟩ := r
  exact ⟨p, vs, e, Same.seqT s q, l _ _ _ _ r, h.2 vs a.r σ w H m Q hl hi s r k⟩⟩
/-! ### statements -/
abbrev M (γ S L : Type) := (γ → Prop) → (S → Prop) → (L → Prop) → (L → Prop) → (Ex → Prop) → Prop
variable {S L S' : Type}
/-- how what is returned stands in the heap -/
abbrev Rf (γ : Type) := Wd → Hp → V → γ → Prop
@[reducible] def Rf.of (R : Rp γ) : Rf γ := fun w _ v c => R.rep w.I v c
def SB (Z : Px) (Γ : List Cell) (t : TS) (R : Rf γ) (Γn : S → List Cell) (Γl : L → List Cell) (m : M γ S L) : Prop :=
  ∀ (φ : Fr) (σ : L2.St) (w : Wd) (H : Hp) (Dn : Ends) (rt : γ → Prop) (nx : S → Prop) (bk ct : L → Prop) (X : Ex → Prop), φ.n = Z.n → At φ Γ σ w H → m rt nx bk ct X →
    (∀ c v w' H', rt c → Gf φ.w0 φ.H0 w' H' → R w' H' v c → Dn.rt v H') →
    (∀ s σ' w' H', nx s → At φ (Γn s) σ' w' H' → Same w.I w'.I → Dn.nx σ' H') →
    (∀ s σ' w' H', bk s → At φ (Γl s) σ' w' H' → Same w.I w'.I → Dn.bk σ' H') →
    (∀ s σ' w' H', ct s → At φ (Γl s) σ' w' H' → Same w.I w'.I → Dn.ct σ' H') →
    (∀ e c d w' H', X e → Gf φ.w0 φ.H0 w' H' → e.rep Z.K Z.mg w'.I c d → ∀ σ, Z.E σ c d H') → t Dn σ H
variable {R : Rf γ} {Γn : S → List Cell} {Γl : L → List Cell}
theorem kk2 {φ : Fr} {Γf : S → List Cell} {f : S → Prop} {K : L2.St → Hp → Prop} {I1 I2 : Hp} (s : Same I1 I2) (k : ∀ s σ' w' H', f s → At φ (Γf s) σ' w' H' → Same I1 w'.I → K σ' H') : ∀ s σ' w' H', f s → At φ (Γf s) σ' w' H' → Same I2 w'.I → K σ' H' := fun s' σ2 w2 H2 ps hA2 s2 => k s' σ2 w2 H2 ps hA2 (s.trans s2)
theorem kx {φ : Fr} {σ : L2.St} {w : Wd} {H : Hp} {X : Ex → Prop} (hg : Gf φ.w0 φ.H0 w H) (k5 : ∀ e c d w' H', X e → Gf φ.w0 φ.H0 w' H' → e.rep Z.K Z.mg w'.I c d → ∀ σ, Z.E σ c d H') : ∀ e c d I' H', X e → Go w H I' H' → e.rep Z.K Z.mg I' c d → Z.E σ c d H' := fun e c d I' H' xe g r => k5 e c d (w.to I') H' xe (hg.go g) r σ
theorem sb_asg {te : TE} {g : TG} {u : TS} {A : Rp α} {is : List Nat} {cs : α → List Cell} {me : D α} {m : α → M γ S L} (hg : SG Z.K g A is cs) (hi : is.all (fun i => decide (i < Z.n)) = true) (he : SE Z false Γ te A me) (hu : ∀ a, SB Z (cs a ++ Γ) u R Γn Γl (m a)) :
    SB Z Γ (tSeq (tAsg te g) u) R Γn Γl (fun rt nx bk ct X => me (fun a => m a rt nx bk ct X) X) := fun φ σ w H Dn rt nx bk ct X hn hA hm k1 k2 k3 k4 k5 =>
  he φ σ w H _ _ X hn hA hm (fun a v I' H' pa s r => hg.2 v a σ (w.to I') H' Z.n _ (hA.len.trans hn) (fun i z => of_decide_eq_true (List.all_eq_true.mp hi i z)) s.sub r fun σ' hl he' hh =>
    hu a φ σ' (w.to I') H' Dn rt nx bk ct X hn ⟨(hA.step s).go, hl.trans hn.symm, hold_tgt he' (hg.1 a) hh (hA.step s).hold⟩ pa k1 (kk2 s.i k2) (kk2 s.i k3) (kk2 s.i k4) k5)
    (kx hA.go k5)
theorem sb_set {i : Nat} {te : TE} {u : TS} {A : Rp α} {me : D α} {m : α → M γ S L} (hi : i < Z.n) (he : SE Z false Γ te A me) (hu : ∀ a, SB Z (⟨.p A, i, a⟩ :: Γ) u R Γn Γl (m a)) :
    SB Z Γ (tSeq (tAsg te (gName i)) u) R Γn Γl (fun rt nx bk ct X => me (fun a => m a rt nx bk ct X) X) := sb_asg sg_name (by simp [hi]) he hu
theorem sb_drop {te : TE} {u : TS} {A : Rp α} {me : D α} {m : M γ S L} (he : SE Z true Γ te A me) (hu : SB Z Γ u R Γn Γl m) :
    SB Z Γ (tSeq (tDrop te) u) R Γn Γl (fun rt nx bk ct X => me (fun _ => m rt nx bk ct X) X) := fun φ σ w H Dn rt nx bk ct X hn hA hm k1 k2 k3 k4 k5 =>
  he φ σ w H _ _ X hn hA hm (fun a v I' H' pa s r => hu φ σ (w.to I') H' Dn rt nx bk ct X hn (hA.step s) pa k1 (kk2 s.i k2) (kk2 s.i k3) (kk2 s.i k4) k5)
    (kx hA.go k5)
theorem sb_if {c : TT} {t u : TS} {mc : D Bool} {m1 m2 : M γ S L} (hc : ST Z Γ c mc) (ht : SB Z Γ t R Γn Γl m1) (hu : SB Z Γ u R Γn Γl m2) :
    SB Z Γ (tIfS c t u) R Γn Γl (fun rt nx bk ct X => mc (fun b => if b = true then m1 rt nx bk ct X else m2 rt nx bk ct X) X) := fun φ σ w H Dn rt nx bk ct X hn hA hm k1 k2 k3 k4 k5 =>
  hc φ σ w H _ _ X hn hA hm (fun b I' H' pa s => by
    cases b with
    | true => exact ht φ σ (w.to I') H' Dn rt nx bk ct X hn (hA.step s) pa k1 (kk2 s.i k2) (kk2 s.i k3) (kk2 s.i k4) k5
    | false => exact hu φ σ (w.to I') H' Dn rt nx bk ct X hn (hA.step s) pa k1 (kk2 s.i k2) (kk2 s.i k3) (kk2 s.i k4) k5)
    (kx hA.go k5)
theorem sb_seq {t u : TS} {Γ1 : S' → List Cell} {m1 : M γ S' L} {m2 : S' → M γ S L} (ht : SB Z Γ t R Γ1 Γl m1) (hu : ∀ s, SB Z (Γ1 s) u R Γn Γl (m2 s)) :
    SB Z Γ (tSeq t u) R Γn Γl (fun rt nx bk ct X => m1 rt (fun s => m2 s rt nx bk ct X) bk ct X) := fun φ σ w H Dn rt nx bk ct X hn hA hm k1 k2 k3 k4 k5 =>
  ht φ σ w H _ rt _ bk ct X hn hA hm k1 (fun s σ' w' H' ps hA' s1 => hu s φ σ' w' H' Dn rt nx bk ct X hn hA' ps k1 (kk2 s1 k2) (kk2 s1 k3) (kk2 s1 k4) k5) k3 k4 k5
/-- a last statement that is followed by nothing -/
theorem sb_end {t : TS} {m : M γ S L} (h : SB Z Γ (tSeq t tNext) R Γn Γl m) : SB Z Γ t R Γn Γl m := h
theorem sb_next {s : S} (h : Subs Γ [] (Γn s)) : SB Z Γ tNext R Γn Γl (fun _ nx _ _ _ => nx s) := fun φ σ w H Dn rt nx bk ct X hn hA hm k1 k2 k3 k4 k5 => k2 s σ w H hm ⟨hA.go, hA.len, h.hold hA.hold⟩ (Same.refl _)
theorem sb_brk {s : L} (h : Subs Γ [] (Γl s)) : SB Z Γ tBreak R Γn Γl (fun _ _ bk _ _ => bk s) := fun φ σ w H Dn rt nx bk ct X hn hA hm k1 k2 k3 k4 k5 => k3 s σ w H hm ⟨hA.go, hA.len, h.hold hA.hold⟩ (Same.refl _)
theorem sb_ct {s : L} (h : Subs Γ [] (Γl s)) : SB Z Γ tCont R Γn Γl (fun _ _ _ ct _ => ct s) := fun φ σ w H Dn rt nx bk ct X hn hA hm k1 k2 k3 k4 k5 => k4 s σ w H hm ⟨hA.go, hA.len, h.hold hA.hold⟩ (Same.refl _)
theorem sb_ret {R : Rp γ} {te : TE} {m : D γ} (h : SE Z false Γ te R m) : SB Z Γ (tRet te) (Rf.of R) Γn Γl (fun rt _ _ _ X => m rt X) := fun φ σ w H Dn rt nx bk ct X hn hA hm k1 k2 k3 k4 k5 => h φ σ w H _ _ X hn hA hm (fun a v I' H' pa s r => k1 a v (w.to I') H' pa (hA.step s).go r) (kx hA.go k5)
theorem sb_retN : SB Z Γ tRetN (Rf.of rN) Γn Γl (fun rt _ _ _ _ => rt ()) := fun φ σ w H Dn rt nx bk ct X hn hA hm k1 k2 k3 k4 k5 => k1 () .non w H hm hA.go rfl
/-- if c: (what does not come behind); the rest -/
theorem sb_ifq {c : TT} {t u : TS} {mc : D Bool} {m1 : M γ Unit L} {m2 : M γ S L} (hc : ST Z Γ c mc) (ht : SB Z Γ t R (fun _ : Unit => Γ) Γl m1) (hu : SB Z Γ u R Γn Γl m2) :
    SB Z Γ (tSeq (tIfS c t tNext) u) R Γn Γl (fun rt nx bk ct X => mc (fun b => if b = true then m1 rt (fun _ => False) bk ct X else m2 rt nx bk ct X) X) := fun φ σ w H Dn rt nx bk ct X hn hA hm k1 k2 k3 k4 k5 =>
  hc φ σ w H _ _ X hn hA hm (fun b I' H' pa s => by
    cases b with
    | true => exact ht φ σ (w.to I') H' { Dn with nx := u Dn } rt (fun _ => False) bk ct X hn (hA.step s) pa k1 (fun _ _ _ _ z => z.elim) (kk2 s.i k3) (kk2 s.i k4) k5
    | false => exact hu φ σ (w.to I') H' Dn rt nx bk ct X hn (hA.step s) pa k1 (kk2 s.i k2) (kk2 s.i k3) (kk2 s.i k4) k5)
    (kx hA.go k5)
/-! ### what is walked -/
structure Wk (R : Rp α) (T : It) (J0 I0 : Hp) (xs : List α) : Prop where
  stop : ∀ H, Same J0 H → T.stop xs.length H
  go : ∀ i H, i < xs.length → Same J0 H → T.go i H
  yld : ∀ i I H x H', i < xs.length → Same J0 H → Same I0 I → Same I H → T.yld i H x H' → ∃ a I', xs[i]? = some a ∧ Gw I H I' H' ∧ R.rep I' x a
def SI (Z : Px) (j : Bool) (Γ : List Cell) (wi : TI) (R : Rp α) (m : D (List α)) : Prop :=
  ∀ (φ : Fr) (σ : L2.St) (w : Wd) (H : Hp) (Rr : It → Hp → Prop) (P : List α → Prop) (X : Ex → Prop), φ.n = Z.n → At φ Γ σ w H → m P X →
    (∀ xs T I' H', P xs → Go w H I' H' → xs.length ≤ sizeLine → Wk R T (tp j w I' H') I' xs → Rr T H') →
    (∀ e c d I' H', X e → Go w H I' H' → e.rep Z.K Z.mg I' c d → Z.E σ c d H') → wi σ H Rr
theorem prd_get {α : Type} {R : V → α → Prop} : ∀ {vs : List V} {xs : List α} {i : Nat}, Paired R vs xs → i < xs.length → ∃ v a, vs[i]? = some v ∧ xs[i]? = some a ∧ R v a
  | _, _, _, .nil, h => absurd h (by simp)
  | _, _, 0, .cons r _, _ => ⟨_, _, rfl, rfl, r⟩
  | _, _, i + 1, .cons _ t, h => by
    obtain ⟨v, a, e1, e2, r⟩ := prd_get (i := i) t (by simpa using h)
    exact ⟨v, a, e1, e2, r⟩
theorem wk_list {K : PySem.W.Frag} {R : Rp α} {a : Addr} {vs : List V} {xs : List α} {J0 I0 : Hp} (rd : ∀ {H : Hp}, Same J0 H → SqL K H a vs) (pr : Paired (R.rep I0) vs xs) : Wk R (Itl K a) J0 I0 xs :=
  ⟨fun H1 s1 => ⟨vs, rd s1, by rw [prd_len pr]; exact Nat.le_refl _⟩, fun i H1 hi s1 => by
    obtain ⟨v, b, e1, _, _⟩ := prd_get pr hi
    exact ⟨vs, v, rd s1, e1⟩, fun i I H1 y H2 hi s1 s0 s2 ⟨e, hy⟩ => by
    obtain ⟨v, b, e1, e2, r⟩ := prd_get pr hi
    have := hy vs (rd s1)
    rw [e1] at this
    cases this
    exact ⟨b, I, e2, by rw [e]; exact Gw.refl s2, R.mn s0 r⟩⟩
theorem wk_tup {K : PySem.W.Frag} {R : Rp α} {a : Addr} {vs : List V} {xs : List α} {J0 I0 : Hp} (rd : ∀ {H : Hp}, Same J0 H → SqT K H a vs) (pr : Paired (R.rep I0) vs xs) : Wk R (Itt K a) J0 I0 xs :=
  ⟨fun H1 s1 => ⟨vs, rd s1, by rw [prd_len pr]; exact Nat.le_refl _⟩, fun i H1 hi s1 => by
    obtain ⟨v, b, e1, _, _⟩ := prd_get pr hi
    exact ⟨vs, v, rd s1, e1⟩, fun i I H1 y H2 hi s1 s0 s2 ⟨e, hy⟩ => by
    obtain ⟨v, b, e1, e2, r⟩ := prd_get pr hi
    have := hy vs (rd s1)
    rw [e1] at this
    cases this
    exact ⟨b, I, e2, by rw [e]; exact Gw.refl s2, R.mn s0 r⟩⟩
theorem si_list {tl : TE} {R : Rp α} {m : D (List α)} (h : SE Z j Γ tl (rL R) m) : SI Z j Γ (iList Z.K tl) R m := fun φ σ w H Rr P X hn hA hm k x =>
  h φ σ w H _ P X hn hA hm (fun xs v I' H' pa s ⟨a, vs, e, hv, hl, pr⟩ => ⟨a, e, ⟨vs, SqL.of (tp_sub s.sub _ _ hv)⟩, k xs _ I' H' pa s hl (wk_list (fun s1 => SqL.of (s1 _ _ hv)) pr)⟩) x
theorem si_scr {tl : TE} {R : Rp α} {m : D (Scr α)} (h : SE Z j Γ tl (rScr Z.K R) m) : SI Z j Γ (iList Z.K tl) R (D.bind m fun s => D.pure s.l) := fun φ σ w H Rr P X hn hA hm k x =>
  h φ σ w H _ _ X hn hA hm (fun xs v I' H' pa s ⟨a, vs, e, hv, hl, pr⟩ => ⟨a, e, ⟨vs, (tp_sub s.sub).seq hv⟩, k xs.l _ I' H' pa s hl (wk_list (fun s1 => s1.seq hv) pr)⟩) x
theorem si_tup {tl : TE} {R : Rp α} {m : D (Tv α)} (h : SE Z j Γ tl (rT Z.K R) m) : SI Z j Γ (iTup Z.K tl) R (D.bind m fun s => D.pure s.l) := fun φ σ w H Rr P X hn hA hm k x =>
  h φ σ w H _ _ X hn hA hm (fun xs v I' H' pa s ⟨a, vs, e, hv, hl, pr⟩ => ⟨a, e, ⟨vs, Same.seqT (tp_sub s.sub) hv⟩, k xs.l _ I' H' pa s hl (wk_tup (fun s1 => Same.seqT s1 hv) pr)⟩) x
/-- lo, lo + 1, .. -/
def rngL (lo : Int) (n : Nat) : List Int := (List.range n).map fun k : Nat => lo + (k : Int)
theorem rngL_len (lo : Int) (n : Nat) : (rngL lo n).length = n := by unfold rngL; rw [List.length_map, List.length_range]
theorem wk_rng (lo : Int) (n : Nat) (J0 I0 : Hp) : Wk rI (Itr lo n) J0 I0 (rngL lo n) :=
  ⟨fun H _ => by show n ≤ _; rw [rngL_len]; exact Nat.le_refl _, fun i H hi _ => by rw [rngL_len] at hi; exact hi, fun i I H x H' hi _ s0 s1 ⟨e1, e2⟩ => by
    rw [rngL_len] at hi
    exact ⟨lo + (i : Int), I, by simp [rngL, hi], by rw [e1]; exact Gw.refl s1, e2⟩⟩
theorem si_rng1 {t : TA} {m : D (Int × Unit)} (h : SA Z true Γ t (rsC rI rs0) m) : SI Z j Γ (iRng1 t) rI (D.bind m fun b => D.need (b.1 ≤ 16000000) (D.need (-(2 ^ 62) ≤ b.1) (D.pure (rngL 0 b.1.toNat)))) := fun φ σ w H Rr P X hn hA hm k x =>
  h φ σ w H _ _ X hn hA hm (fun b vs I' H' pa s ⟨v, r, e, h1, h2⟩ => by
    cases (show r = [] from h2)
    cases (show v = .int b.1 from h1)
    exact ⟨b.1, e, pa.2.1, by have := pa.1; omega, k _ _ I' H' pa.2.2 s (by rw [rngL_len]; have := pa.1; exact Nat.le_trans (show b.1.toNat ≤ 16000000 by omega) (by decide)) (wk_rng _ _ _ _)⟩) x
theorem si_rng2 {t : TA} {m : D (Int × Int × Unit)} (h : SA Z true Γ t (rsC rI (rsC rI rs0)) m) : SI Z j Γ (iRng2 t) rI (D.bind m fun b => D.need (-16000000 ≤ b.1 ∧ b.2.1 ≤ b.1 + 16000000 ∧ b.1 ≤ 2 ^ 61 ∧ -(2 ^ 62) ≤ b.2.1) (D.pure (rngL b.1 (b.2.1 - b.1).toNat))) := fun φ σ w H Rr P X hn hA hm k x =>
  h φ σ w H _ _ X hn hA hm (fun b vs I' H' pa s ⟨v, r, e, h1, v2, r2, e2, h2, h3⟩ => by
    cases (show r2 = [] from h3)
    cases (show v = .int b.1 from h1)
    cases (show v2 = .int b.2.1 from h2)
    subst e2
    obtain ⟨⟨q1, q2, q3, q4⟩, q5⟩ := pa
    exact ⟨b.1, b.2.1, e, ⟨by omega, by omega, by omega, by omega⟩, k _ _ I' H' q5 s (by rw [rngL_len]; exact Nat.le_trans (show (b.2.1 - b.1).toNat ≤ 16000000 by omega) (by decide)) (wk_rng _ _ _ _)⟩) x
/-! ### for -/
def forD (body : α → S → M γ S S) (rt : γ → Prop) (nx : S → Prop) (X : Ex → Prop) : List α → S → Prop
  | [], s => nx s
  | x :: xs, s => body x s rt (fun s' => forD body rt nx X xs s') nx (fun s' => forD body rt nx X xs s') X
theorem sb_for {wi : TI} {g : TG} {tb : TS} {A : Rp α} {is : List Nat} {cs : α → List Cell} {Γs : S → List Cell} {mi : D (List α)} {body : α → S → M γ S S} {s0 : S} (hi : SI Z false Γ wi A mi) (hg : SG Z.K g A is cs) (hin : is.all (fun i => decide (i < Z.n)) = true)
    (dr : Subs Γ [] (Γs s0)) (hb : ∀ x s, SB Z (cs x ++ Γs s) tb R Γs Γs (body x s)) :
    SB Z Γ (tFor wi g tb) R Γs Γl (fun rt nx _ _ X => mi (fun xs => forD body rt nx X xs s0) X) := fun φ σ w H Dn rt nx bk ct X hn hA hm k1 k2 k3 k4 k5 =>
  hi φ σ w H _ _ X hn hA hm (fun xs T I1 H1 px s1 hl wk => by
    have hA1 := hA.step s1
    refine ⟨fun i m σ' H' => ∃ w' s, i + m = xs.length ∧ At φ (Γs s) σ' w' H' ∧ Same I1 w'.I ∧ forD body rt nx X (xs.drop i) s, ⟨xs.length, w.to I1, s0, by omega, ⟨hA1.go, hA1.len, dr.hold hA1.hold⟩, Same.refl _, px⟩, ?_⟩
    rintro i m σ' H' ⟨w', s, em, hA', s', pf⟩
    by_cases he : i = xs.length
    · left
      subst he
      rw [List.drop_length] at pf
      exact ⟨wk.stop H' (s'.trans hA'.go.sub), k2 s σ' w' H' pf hA' (s1.i.trans s')⟩
    · right
      have hi' : i < xs.length := by omega
      refine ⟨wk.go i H' hi' (s'.trans hA'.go.sub), fun σ2 H2 => ∃ w2 s2, At φ (Γs s2) σ2 w2 H2 ∧ Same I1 w2.I ∧ forD body rt nx X (xs.drop (i + 1)) s2, fun σ2 H2 ⟨w2, s2, hA2, z2, pf2⟩ => ⟨m - 1, by omega, w2, s2, by omega, hA2, z2, pf2⟩, fun x H2 hy => ?_⟩
      obtain ⟨a, I', ea, gw, ra⟩ := wk.yld i w'.I H' x H2 hi' (s'.trans hA'.go.sub) s' hA'.go.sub hy
      have hA2 := hA'.step (.of_gw gw)
      have ed : xs.drop i = a :: xs.drop (i + 1) := by
        rw [List.drop_eq_getElem_cons hi']
        rw [List.getElem?_eq_getElem hi'] at ea
        cases ea
        rfl
      rw [ed] at pf
      refine hg.2 x a σ' (w'.to I') H2 Z.n _ (hA2.len.trans hn) (fun i z => of_decide_eq_true (List.all_eq_true.mp hin i z)) hA2.go.sub ra fun σ2 hl2 he2 hh2 => ?_
      have sB : Same I1 I' := s'.trans gw.i
      exact hb a s φ σ2 (w'.to I') H2 _ rt _ nx _ X hn ⟨hA2.go, hl2.trans hn.symm, hold_tgt he2 (hg.1 a) hh2 hA2.hold⟩ pf k1
        (fun s2 σ3 w3 H3 p3 hA3 z3 => ⟨w3, s2, hA3, sB.trans z3, p3⟩) (fun s2 σ3 w3 H3 p3 hA3 z3 => k2 s2 σ3 w3 H3 p3 hA3 (s1.i.trans (sB.trans z3))) (fun s2 σ3 w3 H3 p3 hA3 z3 => ⟨w3, s2, hA3, sB.trans z3, p3⟩) k5)
    (kx hA.go k5)
/-! ### while: a measure of the state -/
def whileD (test : S → D Bool) (body : S → M γ S S) (rt : γ → Prop) (nx : S → Prop) (X : Ex → Prop) : Nat → S → Prop
  | 0, _ => False
  | n + 1, s => test s (fun b => if b = true then body s rt (fun s' => whileD test body rt nx X n s') nx (fun s' => whileD test body rt nx X n s') X else nx s) X
end
end Lx
namespace Lx
open PySem PySem.Spec PyProof.Rows L2 TL
/-! ### comprehensions -/
theorem wipe_in {σ : L2.St} {i : Nat} : ∀ {vs : List Nat}, i ∈ vs → (wipe σ vs)[i]? = if i < σ.length then some none else none
  | v :: vs, h => by
    unfold wipe
    by_cases e : v = i
    · subst e
      rw [List.getElem?_set]
      simp only [if_true, wipe_length]
    · have h' : i ∈ vs := by
        rcases List.mem_cons.mp h with q | q
        · exact absurd q.symm e
        · exact q
      rw [List.getElem?_set_ne e]
      exact wipe_in h'
theorem wipe_eq {a b : L2.St} {vs : List Nat} (e : ∀ j, j ∉ vs → a[j]? = b[j]?) (l : a.length = b.length) : wipe a vs = wipe b vs := by
  refine List.ext_getElem? fun i => ?_
  by_cases h : i ∈ vs
  · rw [wipe_in h, wipe_in h, l]
  · rw [wipe_out h, wipe_out h, e i h]
theorem wipe_wipe (σ : L2.St) (vs : List Nat) : wipe (wipe σ vs) vs = wipe σ vs := wipe_eq (fun j h => wipe_out h) (wipe_length _ _)
section
variable {Z : Px} {j : Bool} {Γ : List Cell} {α β γ δ : Type}
def compD (mt : α → D Bool) (me : α → D β) : List α → D (List β)
  | [] => D.pure []
  | x :: xs => D.bind (mt x) fun b => if b = true then D.bind (me x) fun y => D.bind (compD mt me xs) fun ys => D.pure (y :: ys) else compD mt me xs
theorem compD_pure (p : α → Bool) (f : α → β) : ∀ xs : List α, compD (fun x => D.pure (p x)) (fun x => D.pure (f x)) xs = D.pure ((xs.filter p).map f)
  | [] => rfl
  | x :: xs => by
    show (D.bind (D.pure (p x)) fun b => if b = true then D.bind (D.pure (f x)) fun y => D.bind (compD _ _ xs) fun ys => D.pure (y :: ys) else compD _ _ xs) = _
    rw [compD_pure p f xs, List.filter_cons]
    by_cases h : p x = true
    · rw [if_pos h]
      show (if p x = true then _ else _) = _
      rw [if_pos h]
      rfl
    · rw [if_neg h]
      show (if p x = true then _ else _) = _
      rw [if_neg h]
theorem compD_map (f : α → β) (xs : List α) : compD (fun _ => D.pure true) (fun x => D.pure (f x)) xs = D.pure (xs.map f) := by
  rw [compD_pure (fun _ => true) f xs]
  rw [List.filter_eq_self.mpr (fun _ _ => rfl)]
/-- each item gives what is so -/
theorem compD_any {me : α → D β} (R : α → β → Prop) (P : List β → Prop) (X : Ex → Prop) : ∀ (xs : List α), (∀ x ∈ xs, ∀ Q : β → Prop, (∀ y, R x y → Q y) → me x Q X) → (∀ ys, Paired R xs ys → P ys) → compD (fun _ => D.pure true) me xs P X
  | [], _, h => h [] .nil
  | x :: xs, hm, h => by
    show me x (fun y => compD (fun _ => D.pure true) me xs (fun ys => P (y :: ys)) X) X
    exact hm x (List.mem_cons_self ..) _ fun y ry => compD_any R _ X xs (fun z hz => hm z (List.mem_cons_of_mem _ hz)) fun ys pr => h (y :: ys) (.cons ry pr)
/-- what is kept is of what is walked: f tells which and what -/
theorem compD_fun {mt : α → D Bool} {me : α → D β} (p : α → Bool) (f : α → β) (P : List β → Prop) (X : Ex → Prop) : ∀ (xs : List α), (∀ x ∈ xs, ∀ Q : Bool → Prop, Q (p x) → mt x Q X) → (∀ x ∈ xs, p x = true → ∀ Q : β → Prop, Q (f x) → me x Q X) → P ((xs.filter p).map f) → compD mt me xs P X
  | [], _, _, h => h
  | x :: xs, h1, h2, h => by
    show mt x (fun b => (if b = true then D.bind (me x) fun y => D.bind (compD mt me xs) fun ys => D.pure (y :: ys) else compD mt me xs) P X) X
    refine h1 x (List.mem_cons_self ..) _ ?_
    rw [List.filter_cons] at h
    have r1 : ∀ z ∈ xs, ∀ Q : Bool → Prop, Q (p z) → mt z Q X := fun z hz => h1 z (List.mem_cons_of_mem _ hz)
    have r2 : ∀ z ∈ xs, p z = true → ∀ Q : β → Prop, Q (f z) → me z Q X := fun z hz => h2 z (List.mem_cons_of_mem _ hz)
    by_cases e : p x = true
    · rw [if_pos e] at h ⊢
      exact h2 x (List.mem_cons_self ..) e _ (compD_fun p f _ X xs r1 r2 h)
    · rw [if_neg e] at h ⊢
      exact compD_fun p f P X xs r1 r2 h
theorem paired_app {α β : Type} {R : α → β → Prop} : ∀ {a a' : List α} {b b' : List β}, Paired R a b → Paired R a' b' → Paired R (a ++ a') (b ++ b')
  | _, _, _, _, .nil, h => h
  | _, _, _, _, .cons r t, h => .cons r (paired_app t h)
theorem compD_mono (mt : α → D Bool) (me : α → D β) (P : List β → Prop) (X : Ex → Prop) (ys : List β) (x : α) (xs : List α) (h : compD mt me (x :: xs) (fun r => P (ys ++ r)) X) : mt x (fun b => if b = true then me x (fun y => compD mt me xs (fun r => P (ys ++ (y :: r))) X) X else compD mt me xs (fun r => P (ys ++ r)) X) X := by
  have h' : mt x (fun b => (if b = true then D.bind (me x) fun y => D.bind (compD mt me xs) fun ys => D.pure (y :: ys) else compD mt me xs) (fun r => P (ys ++ r)) X) X := h
  have e : (fun b => (if b = true then D.bind (me x) fun y => D.bind (compD mt me xs) fun ys => D.pure (y :: ys) else compD mt me xs) (fun r => P (ys ++ r)) X) = (fun b => if b = true then me x (fun y => compD mt me xs (fun r => P (ys ++ (y :: r))) X) X else compD mt me xs (fun r => P (ys ++ r)) X) := by
    funext b
    cases b <;> rfl
  rw [e] at h'
  exact h'
/-- what is in nobody's hands may change -/
theorem holds_loose {σ : L2.St} {w : Wd} {H : Hp} {d : Addr} (ho : w.own d = none) (hw : w.wl d = none) (o : HO) {c : Cell} (h : c.holds σ w H) : c.holds σ w (upd H d o) := by
  obtain ⟨K, i, x⟩ := c
  cases K with
  | p R => exact h
  | l R =>
    obtain ⟨v, e, L, vs, e1, e2, e3, e4, e5⟩ := h
    exact ⟨v, e, L, vs, e1, e2, by rw [upd_ne (fun z => by rw [z, ho] at e2; cases e2)]; exact e3, e4, e5⟩
  | o F =>
    obtain ⟨v, e, l, e1, e2⟩ := h
    have ne : ∀ b, l b ≠ none → b ≠ d := fun b hb z => by
      have := (e1 b hb).1
      rw [z, ho] at this
      cases this
    exact ⟨v, e, l, fun b hb => ⟨(e1 b hb).1, by rw [upd_ne (ne b hb)]; exact (e1 b hb).2⟩, F.mono (Same.refl _) (fun b hb => upd_ne (ne b hb)) e2⟩
  | w k =>
    obtain ⟨v, e, W, ns, e1, e2, e3, e4⟩ := h
    exact ⟨v, e, W, ns, e1, e2, by rw [upd_ne (fun z => by rw [z, hw] at e2; cases e2)]; exact e3, e4⟩
  | x => exact h
theorem go_loose {w : Wd} {H1 I' H' : Hp} {d : Addr} (hd : H1 d = none) (g : Go w H1 I' H') (id : I' d = none) (o : HO) : Go w H1 I' (upd H' d o) := by
  have ne : ∀ {b : Addr}, H1 b ≠ none → b ≠ d := fun h z => h (by rw [z]; exact hd)
  refine ⟨g.i, fun b u e => ?_, g.new, fun b u n e => by rw [upd_ne (ne (nn e))]; exact g.kept b u n e, fun b i ns n e => by rw [upd_ne (ne (nn e))]; exact g.wells b i ns n e, fun b h => by rw [upd_ne (ne h)]; exact g.dom b h⟩
  rw [upd_ne (fun z => by rw [z, id] at e; cases e)]
  exact g.sub _ _ e
theorem se_lc {wi : TI} {g : TG} {tt : TT} {te : TE} {vs is : List Nat} {A : Rp α} {R : Rp β} {cs : α → List Cell} {mi : D (List α)} {mt : α → D Bool} {me : α → D β} (hi : SI Z true Γ wi A mi) (hg : SG Z.K g A is cs) (hv : is.all (fun i => vs.contains i) = true) (hin : is.all (fun i => decide (i < Z.n)) = true)
    (ht : ∀ x, ST Z (cs x ++ (xs vs ++ Γ)) tt (mt x)) (he : ∀ x, SE Z false (cs x ++ (xs vs ++ Γ)) te R (me x)) (hE : ∀ a b, Z.E a = Z.E b := by intros; rfl) : SE Z j Γ (tLc wi g tt te vs) (rL R) (D.bind mi fun ys => compD mt me ys) := fun φ σ w H Q P X hn hA hm k x =>
  hi φ σ w H _ _ X hn hA hm (fun ys T I1 H1 px g1 hl wk Dd hD => by
    have x' : ∀ σ', ∀ e c d I' H', X e → Go w H I' H' → e.rep Z.K Z.mg I' c d → Z.E σ' c d H' := fun σ' e c d I' H' a b r => by rw [hE σ' σ]; exact x e c d I' H' a b r
    have hA1 := hA.step g1
    have woff : ∀ j, j ∉ vs → (wipe σ vs)[j]? = σ[j]? := fun j h => wipe_out h
    have wlen : (wipe σ vs).length = φ.n := (wipe_length _ _).trans hA1.len
    have ownD : w.own Dd = none := by
      cases e : w.own Dd with
      | none => rfl
      | some i => exact absurd hD (hA1.go.apo _ _ e).2.1
    have wlD : w.wl Dd = none := by
      cases e : w.wl Dd with
      | none => rfl
      | some i => exact absurd hD (hA1.go.apw _ _ e).2
    have ID : I1 Dd = none := g1.sub.free hD
    have g0 : Go (w.to I1) H1 I1 (upd H1 Dd (.lst [])) := go_loose (w := w.to I1) hD (Go.rf (w := w.to I1) g1.sub) ID _
    have keepD : ∀ {I2 H2 : Hp} {us : List V} {I3 H3 : Hp}, Go (w.to I1) H1 I2 H2 → H2 Dd = some (.lst us) → I2 Dd = none → Go (w.to I2) H2 I3 H3 → H3 Dd = some (.lst us) ∧ I3 Dd = none := fun g2 e2 i2 g3 => ⟨g3.kept _ _ wlD e2, (g3.new Dd (nn e2)).trans i2⟩
    have holdW : ∀ {I2 H2 : Hp}, Hold σ (w.to I2) H2 Γ → Hold (wipe σ vs) (w.to I2) H2 (xs vs ++ Γ) := fun h => hold_tgt woff (xs_i vs) (xs_hold vs) h
    refine ⟨fun i m H' => ∃ I' zs us, i + m = ys.length ∧ Go (w.to I1) H1 I' H' ∧ Hold σ (w.to I') H' Γ ∧ H' Dd = some (.lst us) ∧ I' Dd = none ∧ Paired (R.rep I') us zs ∧ zs.length ≤ i ∧ compD mt me (ys.drop i) (fun r => P (zs ++ r)) X, ⟨ys.length, I1, [], [], by omega, g0, fun i c e => holds_loose (w := w.to I1) ownD wlD _ (hA1.hold i c e), upd_same, ID, .nil, Nat.le_refl _, px⟩, ?_⟩
    rintro i m H' ⟨I', zs, us, em, go', hold', eD, iD, pr, yl, pf⟩
    have at0 : At φ Γ σ (w.to I') H' := ⟨(hA1.step go').go, hA1.len, hold'⟩
    by_cases hend : i = ys.length
    · left
      subst hend
      rw [List.drop_length] at pf
      refine ⟨wk.stop H' ((tp_go (j := true) go').trans (tp_sub (j := true) go'.sub)), ?_⟩
      have pf' : P (zs ++ []) := pf
      rw [List.append_nil] at pf'
      have s2 : Same I' (upd I' Dd (.lst us)) := My.same_upd iD
      have nD : ∀ {b : Addr}, b ≠ Dd → (upd I' Dd (.lst us)) b = I' b := fun h => upd_ne h
      have old : ∀ {b : Addr}, H1 b ≠ none → b ≠ Dd := fun hb z => hb (by rw [z]; exact hD)
      have go2 : Go (w.to I1) H1 (upd I' Dd (.lst us)) H' := by
        refine ⟨go'.i.trans s2, fun b o e => ?_, fun b hb => (nD (old hb)).trans (go'.new b hb), go'.kept, go'.wells, go'.dom⟩
        by_cases z : b = Dd
        · subst z
          rw [upd_same] at e
          rw [eD]
          exact e
        · rw [upd_ne z] at e
          exact go'.sub _ _ e
      have g3 := g1.trans go2
      exact k zs _ _ H' pf' g3 ((rL R).up (i_tp (w := w.to _) j (hA.step g3).go) ⟨Dd, us, rfl, upd_same, Nat.le_trans yl hl, prd_mono R s2 pr⟩)
    · right
      have hi' : i < ys.length := by omega
      refine ⟨wk.go i H' hi' ((tp_go (j := true) go').trans (tp_sub (j := true) go'.sub)), fun H2 => ∃ I2 zs2 us2, Go (w.to I1) H1 I2 H2 ∧ Hold σ (w.to I2) H2 Γ ∧ H2 Dd = some (.lst us2) ∧ I2 Dd = none ∧ Paired (R.rep I2) us2 zs2 ∧ zs2.length ≤ i + 1 ∧ compD mt me (ys.drop (i + 1)) (fun r => P (zs2 ++ r)) X,
        fun H2 ⟨I2, zs2, us2, a1, a2, a3, a4, a5, a6, a7⟩ => ⟨m - 1, by omega, I2, zs2, us2, by omega, a1, a2, a3, a4, a5, a6, a7⟩, fun y H2 hy => ?_⟩
      obtain ⟨a, I2, ea, gw, ra⟩ := wk.yld i I' H' y H2 hi' ((tp_go (j := true) go').trans (tp_sub (j := true) go'.sub)) go'.i go'.sub hy
      have go2 : Go (w.to I') H' I2 H2 := .of_gw gw
      have at2 : At φ Γ σ (w.to I2) H2 := at0.step go2
      have ed : ys.drop i = a :: ys.drop (i + 1) := by
        rw [List.drop_eq_getElem_cons hi']
        rw [List.getElem?_eq_getElem hi'] at ea
        cases ea
        rfl
      rw [ed] at pf
      have pf := compD_mono mt me P X zs a _ pf
      obtain ⟨eD2, iD2⟩ := keepD go' eD iD go2
      refine hg.2 y a (wipe σ vs) (w.to I2) H2 φ.n _ wlen (fun i z => by rw [hn]; exact of_decide_eq_true (List.all_eq_true.mp hin i z)) go2.sub ra fun σ2 hl2 he2 hh2 => ⟨?_, ?_⟩
      · rw [← wipe_wipe σ vs]
        refine wipe_eq (fun j hj => he2 j fun z => hj ?_) (hl2.trans wlen.symm)
        have := List.all_eq_true.mp hv j z
        simpa using this
      · have at3 : At φ (cs a ++ (xs vs ++ Γ)) σ2 (w.to I2) H2 := ⟨at2.go, hl2, hold_tgt he2 (hg.1 a) hh2 (holdW at2.hold)⟩
        refine ht a φ σ2 (w.to I2) H2 _ _ X hn at3 pf (fun b I3 H3 pb go3 => ?_) (xg ((g1.trans go').trans go2) (x' σ2))
        obtain ⟨eD3, iD3⟩ := keepD (go'.trans go2) eD2 iD2 go3
        have at4 := at2.step go3
        cases b with
        | false => exact ⟨I3, zs, us, (go'.trans go2).trans go3, at4.hold, eD3, iD3, prd_mono R (go2.trans go3).i pr, by omega, pb⟩
        | true =>
          refine he a φ σ2 (w.to I3) H3 _ _ X hn (at3.step go3) pb (fun z v I4 H4 pz go4 rz => ?_) (xg (((g1.trans go').trans go2).trans go3) (x' σ2))
          obtain ⟨eD4, iD4⟩ := keepD ((go'.trans go2).trans go3) eD3 iD3 go4
          have go5 := ((go'.trans go2).trans go3).trans go4
          have at5 := at4.step go4
          refine ⟨us, eD4, Nat.lt_of_lt_of_le (show us.length < ys.length by rw [prd_len pr]; omega) hl, I4, zs ++ [z], us ++ [v], go_loose hD go5 iD4 _, fun i c e => holds_loose (w := w.to I4) ownD wlD _ (at5.hold i c e), upd_same, iD4, paired_app (prd_mono R ((go2.trans go3).trans go4).i pr) (.cons rz .nil), by rw [List.length_append]; simp; omega, ?_⟩
          have e : (fun r => P (zs ++ [z] ++ r)) = (fun r => P (zs ++ (z :: r))) := by
            funext r
            rw [List.append_assoc]
            rfl
          rw [e]
          exact pz)
    x
/-! ### wells -/
structure Gv (W : Addr) (k : Nat) (I H I' H' : Hp) : Prop where
  i : Same I I'
  sub : Same I' H'
  h : ∀ b o, b ≠ W → H b = some o → H' b = some o
  wl : ∃ ns : List Int, H' W = some (.lst (ns.map V.int)) ∧ ns.length = k
  new : ∀ b, H b ≠ none → I' b = I b
theorem Go.of_gv {w : Wd} {H I' H' : Hp} {W : Addr} {k i : Nat} {ns : List Int} (e1 : w.wl W = some i) (e2 : H W = some (.lst (ns.map V.int))) (e3 : ns.length = k) (g : Gv W k w.I H I' H') : Go w H I' H' := by
  refine ⟨g.i, g.sub, g.new, fun b o hb h => g.h b o (fun z => by rw [z, e1] at hb; cases hb) h, fun b i' ns' h1 h3 => ?_, fun b hb => ?_⟩
  · by_cases z : b = W
    · subst z
      obtain ⟨n2, q1, q2⟩ := g.wl
      rw [e2] at h3
      have q : ns.map V.int = ns'.map V.int := by injection (Option.some.inj h3)
      have q' := congrArg List.length q
      simp only [List.length_map] at q'
      exact ⟨n2, q1, by omega⟩
    · exact ⟨ns', g.h _ _ z h3, rfl⟩
  · by_cases z : b = W
    · subst z
      obtain ⟨_, q, _⟩ := g.wl
      exact nn q
    · obtain ⟨o, e⟩ := sm hb
      exact nn (g.h b o z e)
/-- a draw: any number below the bound -/
def spDr (k : Nat) (lim : Int) : Sp := fun vs H Q _ => ∃ (W : Addr) (ns : List Int) (m : Int), vs = [.ref W, .int m] ∧ 0 < m ∧ m < lim ∧ H W = some (.lst (ns.map V.int)) ∧ ns.length = k ∧
  ∀ r H', 0 ≤ r → r < m → (∀ b o, b ≠ W → H b = some o → H' b = some o) → (∃ ns' : List Int, H' W = some (.lst (ns'.map V.int)) ∧ ns'.length = k) → Q (.int r) H'
theorem dr_of_draw : ∀ vs H Q E, spDr 3 1073741824 vs H Q E → My.spDraw vs H Q E := fun vs H Q E ⟨W, ns, m, e, h1, h2, hw, hl, q⟩ => by
  obtain ⟨a, b, c, rfl⟩ : ∃ a b c, ns = [a, b, c] := match ns, hl with
    | [a, b, c], _ => ⟨a, b, c, rfl⟩
  exact ⟨W, m, e, h1, h2, ⟨a, b, c, hw⟩, fun r H' r0 r1 x => q r H' r0 r1 (fun b o n h => x.keep b o n h) (by
    obtain ⟨a', b', c', hw'⟩ := x.well
    exact ⟨[a', b', c'], hw', rfl⟩)⟩
theorem se_draw {E : XK} {k i : Nat} {lim : Int} {tm : TE} {mm : D Int} (hw : look Γ i = some ⟨.w k, i, ()⟩) (hm' : SE Z true Γ tm rI mm) : SE Z j Γ (tCall (spDr k lim) [] E (tCons (tVar i) (tCons tm tNil))) rI (D.bind mm fun m => D.need (0 < m ∧ m < lim) (D.any fun r => 0 ≤ r ∧ r < m)) := fun φ σ w H Q P X hn hA hm kk x => by
  obtain ⟨v, e, _⟩ := hA.hold i _ hw
  refine ⟨v, e, hm' φ σ w H _ _ X hn hA hm (fun m u I1 H1 pm s1 rm => ?_) x⟩
  obtain ⟨v', e', W, ns, f1, f2, f3, f4⟩ := (hA.step s1).hold i _ hw
  rw [e] at e'
  cases e'
  subst f1
  cases (show u = .int m from rm)
  refine ⟨W, ns, m, rfl, pm.1.1, pm.1.2, f3, f4, fun r H' r0 r1 hk hw' => ?_⟩
  have hi := (hA.step s1).go.apw W i f2
  have g2 : Go (w.to I1) H1 I1 H' := Go.of_gv (w := w.to I1) f2 f3 f4 ⟨Same.refl _, fun b o q => hk b o (fun z => by
    have hi1 : I1 W = none := hi.1
    rw [z, hi1] at q; cases q) (s1.sub _ _ q), hk, hw', fun _ _ => rfl⟩
  exact kk r _ I1 H' (pm.2 r ⟨r0, r1⟩) (s1.trans g2) rfl
/-- a def that draws from a well, its first argument, and changes nothing else -/
def spW (k : Nat) (S : Rps β) (R : Rp γ) (m : β → D γ) : Sp := fun vs H Q _ => ∃ (W : Addr) (ns : List Int) (vs' : List V) (I : Hp) (b : β) (P : γ → Prop), vs = .ref W :: vs' ∧ H W = some (.lst (ns.map V.int)) ∧ ns.length = k ∧ I W = none ∧ Same I H ∧ S.rep I vs' b ∧ m b P (fun _ => False) ∧
  ∀ c v I' H', P c → Gv W k I H I' H' → R.rep I' v c → Q v H'
theorem spW.imp {k : Nat} {S : Rps β} {R : Rp γ} {m m' : β → D γ} (h : ∀ b P, m' b P (fun _ => False) → m b P (fun _ => False)) : ∀ vs H Q E, spW k S R m' vs H Q E → spW k S R m vs H Q E := fun _ _ _ _ ⟨W, ns, vs', I, b, P, a1, a2, a3, a4, a5, a6, a7, a8⟩ => ⟨W, ns, vs', I, b, P, a1, a2, a3, a4, a5, a6, h b P a7, a8⟩
theorem se_callW {E : XK} {k i : Nat} {t : TA} {S : Rps β} {R : Rp γ} {mb : D β} {m : β → D γ} (hw : look Γ i = some ⟨.w k, i, ()⟩) (h : SA Z false Γ t S mb) : SE Z j Γ (tCall (spW k S R m) [] E (tCons (tVar i) t)) R (D.bind mb fun b => D.nox (m b)) := fun φ σ w H Q P X hn hA hm kk x => by
  obtain ⟨v, e, _⟩ := hA.hold i _ hw
  refine ⟨v, e, h φ σ w H _ _ X hn hA hm (fun b us I1 H1 pb s1 rb => ?_) x⟩
  obtain ⟨v', e', W, ns, f1, f2, f3, f4⟩ := (hA.step s1).hold i _ hw
  rw [e] at e'
  cases e'
  subst f1
  rw [List.append_nil]
  have hi := (hA.step s1).go.apw W i f2
  refine ⟨W, ns, us, I1, b, P, rfl, f3, f4, hi.1, s1.sub, rb, pb, fun c u I' H' pc g rc => ?_⟩
  have g2 := s1.trans (Go.of_gv (w := w.to I1) f2 f3 f4 g)
  exact kk c u I' H' pc g2 (R.up (i_tp (w := w.to I') j (hA.step g2).go) rc)
variable {S L S' : Type} {R : Rf γ} {Γn : S → List Cell} {Γl : L → List Cell}
/-- a new well -/
def spWl (k : Nat) : Sp := fun vs H Q _ => ∃ n : Int, vs = [.int n] ∧ ∀ (p : Addr) (ns : List Int), H p = none → ns.length = k → Q (.ref p) (upd H p (.lst (ns.map V.int)))
theorem wl_of_well : ∀ vs H Q E, spWl 3 vs H Q E → My.spWell vs H Q E := fun vs H Q E ⟨n, e, q⟩ => ⟨n, e, fun p a b c hp => q p [a, b, c] hp rfl⟩
/-- a slot comes to own what is new -/
theorem holds_fresh {σ : L2.St} {w : Wd} {H : Hp} {p : Addr} {own' wl' : Addr → Option Nat} (hp : H p = none) (o : HO) (ho : ∀ b, b ≠ p → own' b = w.own b) (hw : ∀ b, b ≠ p → wl' b = w.wl b) {c : Cell} (h : c.holds σ w H) : c.holds σ ⟨w.I, own', wl'⟩ (upd H p o) := by
  obtain ⟨K, i, x⟩ := c
  cases K with
  | p R => exact h
  | l R =>
    obtain ⟨v, e, L, vs, e1, e2, e3, e4, e5⟩ := h
    have z : L ≠ p := ne_of_none e3 hp
    exact ⟨v, e, L, vs, e1, (ho L z).trans e2, by rw [upd_ne z]; exact e3, e4, e5⟩
  | o F =>
    obtain ⟨v, e, l, e1, e2⟩ := h
    have ne : ∀ b, l b ≠ none → b ≠ p := fun b hb z => (e1 b hb).2 (by rw [z]; exact hp)
    exact ⟨v, e, l, fun b hb => ⟨(ho b (ne b hb)).trans (e1 b hb).1, by rw [upd_ne (ne b hb)]; exact (e1 b hb).2⟩, F.mono (Same.refl _) (fun b hb => upd_ne (ne b hb)) e2⟩
  | w k =>
    obtain ⟨v, e, W, ns, e1, e2, e3, e4⟩ := h
    have z : W ≠ p := ne_of_none e3 hp
    exact ⟨v, e, W, ns, e1, (hw W z).trans e2, by rw [upd_ne z]; exact e3, e4⟩
  | x => exact h
theorem gf_fresh {w0 w : Wd} {H0 H : Hp} {p : Addr} {own' wl' : Addr → Option Nat} (g : Gf w0 H0 w H) (hp : H p = none) (o : HO) (ho : ∀ b, b ≠ p → own' b = w.own b) (hw : ∀ b, b ≠ p → wl' b = w.wl b) (one : own' p ≠ none → wl' p = none) : Gf w0 H0 ⟨w.I, own', wl'⟩ (upd H p o) := by
  have old : ∀ {b : Addr}, H0 b ≠ none → b ≠ p := fun {b} h z => g.dom b h (by rw [z]; exact hp)
  have up : ∀ {b : Addr}, H b ≠ none → (upd H p o) b ≠ none := fun {b} h => by
    obtain ⟨u, e⟩ := sm h
    rw [upd_ne (ne_of_none e hp)]
    exact h
  have ip : w.I p = none := g.sub.free hp
  refine ⟨g.i, g.inew, fun b h => (ho b (old h)).trans (g.onew b h), fun b h => (hw b (old h)).trans (g.wnew b h), fun b u h2 h3 => by rw [upd_ne (old (nn h3))]; exact g.keep b u h2 h3, fun b u e => ?_, fun b i e => ?_, fun b i e => ?_, fun b i ns h1 h3 => by rw [upd_ne (old (nn h3))]; exact g.wells b i ns h1 h3, fun b h => up (g.dom b h)⟩
  · rw [upd_ne (fun z => by rw [z, ip] at e; cases e)]
    exact g.sub _ _ e
  · have e' : own' b = some i := e
    by_cases z : b = p
    · subst z
      exact ⟨ip, nn upd_same, one (by rw [e']; exact fun z => nomatch z)⟩
    · rw [ho b z] at e'
      exact ⟨(g.apo b i e').1, up (g.apo b i e').2.1, (hw b z).trans (g.apo b i e').2.2⟩
  · have e' : wl' b = some i := e
    by_cases z : b = p
    · subst z
      exact ⟨ip, nn upd_same⟩
    · rw [hw b z] at e'
      exact ⟨(g.apw b i e').1, up (g.apw b i e').2⟩
theorem own_fresh {φ : Fr} {σ : L2.St} {w : Wd} {H : Hp} (hA : At φ Γ σ w H) {p : Addr} (hp : H p = none) : w.own p = none ∧ w.wl p = none := by
  constructor
  · cases e : w.own p with
    | none => rfl
    | some i => exact absurd hp (hA.go.apo _ _ e).2.1
  · cases e : w.wl p with
    | none => rfl
    | some i => exact absurd hp (hA.go.apw _ _ e).2
theorem at_well {φ : Fr} {σ : L2.St} {w : Wd} {H : Hp} {i k : Nat} {p : Addr} {ns : List Int} (hA : At φ Γ σ w H) (hi : i < φ.n) (hp : H p = none) (hl : ns.length = k) : At φ (⟨.w k, i, ()⟩ :: Γ) (σ.set i (some (.ref p))) ⟨w.I, w.own, fun b => if b = p then some i else w.wl b⟩ (upd H p (.lst (ns.map V.int))) := by
  have ho : ∀ b, b ≠ p → w.own b = w.own b := fun _ _ => rfl
  have hw : ∀ b, b ≠ p → (fun b => if b = p then some i else w.wl b) b = w.wl b := fun b z => if_neg z
  refine ⟨gf_fresh hA.go hp _ ho hw (fun z => absurd (own_fresh hA hp).1 z), by rw [List.length_set]; exact hA.len, ?_⟩
  exact hold_tgt (cs := [⟨.w k, i, ()⟩]) (is := [i]) (fun j hj => set_off (by simpa using hj)) rfl (holdC1 ⟨_, set_at (by rw [hA.len]; exact hi), p, ns, rfl, if_pos rfl, upd_same, hl⟩) (fun j c e => holds_fresh hp _ ho hw (hA.hold j c e))
theorem sb_well {E : XK} {k i : Nat} {te : TE} {u : TS} {me : D Int} {m : M γ S L} (hi : i < Z.n) (he : SE Z true Γ te rI me) (hu : SB Z (⟨.w k, i, ()⟩ :: Γ) u R Γn Γl m) :
    SB Z Γ (tSeq (tAsg (tCall (spWl k) [] E (tCons te tNil)) (gName i)) u) R Γn Γl (fun rt nx bk ct X => me (fun _ => m rt nx bk ct X) X) := fun φ σ w H Dn rt nx bk ct X hn hA hm k1 k2 k3 k4 k5 =>
  he φ σ w H _ _ X hn hA hm (fun a v I' H' pa s r => by
    cases (show v = .int a from r)
    refine ⟨a, rfl, fun p ns hp hl => ?_⟩
    exact hu φ (σ.set i (some (.ref p))) _ _ Dn rt nx bk ct X hn (at_well (hA.step s) (by rw [hn]; exact hi) hp hl) pa k1 (kk2 s.i k2) (kk2 s.i k3) (kk2 s.i k4) k5)
    (kx hA.go k5)
/-! ### lists of a slot's own -/
theorem at_newL {φ : Fr} {σ : L2.St} {w : Wd} {H : Hp} {i : Nat} {p : Addr} {A : Rp α} {us : List V} {ys : List α} (hA : At φ Γ σ w H) (hi : i < φ.n) (hp : H p = none) (hl : ys.length ≤ sizeLine) (pr : Paired (A.rep w.I) us ys) : At φ (⟨.l A, i, ys⟩ :: Γ) (σ.set i (some (.ref p))) ⟨w.I, fun b => if b = p then some i else w.own b, w.wl⟩ (upd H p (.lst us)) := by
  have ho : ∀ b, b ≠ p → (fun b => if b = p then some i else w.own b) b = w.own b := fun b z => if_neg z
  have hw : ∀ b, b ≠ p → w.wl b = w.wl b := fun _ _ => rfl
  refine ⟨gf_fresh hA.go hp _ ho hw (fun _ => (own_fresh hA hp).2), by rw [List.length_set]; exact hA.len, ?_⟩
  exact hold_tgt (cs := [⟨.l A, i, ys⟩]) (is := [i]) (fun j hj => set_off (by simpa using hj)) rfl (holdC1 ⟨_, set_at (by rw [hA.len]; exact hi), p, us, rfl, if_pos rfl, upd_same, hl, pr⟩) (fun j c e => holds_fresh hp _ ho hw (hA.hold j c e))
/-- x = [a, b, ..] -/
theorem sb_newL {i : Nat} {t : TA} {u : TS} {A : Rp α} {me : D (List α)} {m : List α → M γ S L} (hi : i < Z.n) (he : SA Z false Γ t (rsL A) me) (hu : ∀ ys, SB Z (⟨.l A, i, ys⟩ :: Γ) u R Γn Γl (m ys)) :
    SB Z Γ (tSeq (tAsg (tLst t) (gName i)) u) R Γn Γl (fun rt nx bk ct X => me (fun ys => ys.length ≤ sizeLine ∧ m ys rt nx bk ct X) X) := fun φ σ w H Dn rt nx bk ct X hn hA hm k1 k2 k3 k4 k5 =>
  he φ σ w H _ _ X hn hA hm (fun ys us I' H' pa s r => by
    have r' : Paired (A.rep I') us ys := r
    refine ⟨by rw [prd_len r']; exact pa.1, fun p hp => ?_⟩
    exact hu ys φ (σ.set i (some (.ref p))) _ _ Dn rt nx bk ct X hn (at_newL (hA.step s) (by rw [hn]; exact hi) hp pa.1 r') pa.2 k1 (kk2 s.i k2) (kk2 s.i k3) (kk2 s.i k4) k5)
    (kx hA.go k5)
/-- x = [] -/
theorem sb_nilL {i : Nat} {u : TS} (A : Rp α) {m : M γ S L} (hi : i < Z.n) (hu : SB Z (⟨.l A, i, []⟩ :: Γ) u R Γn Γl m) :
    SB Z Γ (tSeq (tAsg (tLst tNil) (gName i)) u) R Γn Γl m := fun φ σ w H Dn rt nx bk ct X hn hA hm k1 k2 k3 k4 k5 =>
  ⟨Nat.zero_le _, fun p hp => hu φ (σ.set i (some (.ref p))) _ _ Dn rt nx bk ct X hn (at_newL hA (by rw [hn]; exact hi) hp (Nat.zero_le _) .nil) hm k1 k2 k3 k4 k5⟩
/-- the list of slot i changes -/
theorem at_chL {φ : Fr} {σ : L2.St} {w : Wd} {H : Hp} {i : Nat} {A B : Rp α} {Lx : Addr} {us : List V} {ys : List α} (a : At φ Γ σ w H) (e : σ[i]? = some (some (.ref Lx))) (e1 : w.own Lx = some i) (hl : ys.length ≤ sizeLine) (pr : Paired (A.rep w.I) us ys) : At φ (⟨.l A, i, ys⟩ :: Γ) σ w (upd H Lx (.lst us)) := by
  have old : ∀ {b : Addr}, φ.H0 b ≠ none → b ≠ Lx := fun {b} h z => by
    have := a.go.onew b h
    rw [z, e1] at this
    cases this
  have up : ∀ {b : Addr}, H b ≠ none → (upd H Lx (.lst us)) b ≠ none := fun {b} h => by
    by_cases z : b = Lx
    · subst z
      exact nn upd_same
    · rw [upd_ne z]
      exact h
  have ip : w.I Lx = none := (a.go.apo Lx i e1).1
  refine ⟨⟨a.go.i, a.go.inew, a.go.onew, a.go.wnew, fun b u h2 h3 => by rw [upd_ne (old (nn h3))]; exact a.go.keep b u h2 h3, fun b u q => ?_, fun b i q => ⟨(a.go.apo b i q).1, up (a.go.apo b i q).2.1, (a.go.apo b i q).2.2⟩, fun b i q => ⟨(a.go.apw b i q).1, up (a.go.apw b i q).2⟩, fun b i ns h1 h3 => by rw [upd_ne (old (nn h3))]; exact a.go.wells b i ns h1 h3, fun b h => up (a.go.dom b h)⟩, a.len, fun k c q => ?_⟩
  · rw [upd_ne (fun z => by rw [z, ip] at q; cases q)]
    exact a.go.sub _ _ q
  · have q' : (match Nat.beq i k with | true => some (⟨.l A, i, ys⟩ : Cell) | false => look Γ k) = some c := q
    cases z : Nat.beq i k with
    | true =>
      rw [z] at q'
      cases q'
      exact ⟨_, e, Lx, us, rfl, e1, upd_same, hl, pr⟩
    | false =>
      rw [z] at q'
      have nz : i ≠ k := Nat.ne_of_beq_eq_false z
      have hi := look_i q'
      have hc := a.hold k c q'
      obtain ⟨K, k2, x⟩ := c
      subst hi
      cases K with
      | p R => exact hc
      | l R =>
        obtain ⟨v, q, L', vs, f1, f2, f3, f4, f5⟩ := hc
        exact ⟨v, q, L', vs, f1, f2, by rw [upd_ne (fun z => nz (by rw [z, e1] at f2; exact Option.some.inj f2))]; exact f3, f4, f5⟩
      | o F =>
        obtain ⟨v, q, l, f1, f2⟩ := hc
        have ne : ∀ b, l b ≠ none → b ≠ Lx := fun b hb z => nz (by
          have := (f1 b hb).1
          rw [z, e1] at this
          exact Option.some.inj this)
        exact ⟨v, q, l, fun b hb => ⟨(f1 b hb).1, up (f1 b hb).2⟩, F.mono (Same.refl _) (fun b hb => upd_ne (ne b hb)) f2⟩
      | w k =>
        obtain ⟨v, q, W, ns, f1, f2, f3, f4⟩ := hc
        exact ⟨v, q, W, ns, f1, f2, by rw [upd_ne (fun z => by rw [z, (a.go.apo Lx i e1).2.2] at f2; cases f2)]; exact f3, f4⟩
      | x => exact hc
/-- x.append(e) -/
theorem sb_app {i : Nat} {te : TE} {u : TS} {A : Rp α} {xs : List α} {me : D α} {m : α → M γ S L} (hl : look Γ i = some ⟨.l A, i, xs⟩) (he : SE Z false Γ te A me) (hu : ∀ a, SB Z (⟨.l A, i, xs ++ [a]⟩ :: Γ) u R Γn Γl (m a)) :
    SB Z Γ (tSeq (tDrop (tBM Z.K "list" rAppend (tVar i) (tCons te tNil))) u) R Γn Γl (fun rt nx bk ct X => me (fun a => xs.length < sizeLine ∧ m a rt nx bk ct X) X) := fun φ σ w H Dn rt nx bk ct X hn hA hm k1 k2 k3 k4 k5 => by
  obtain ⟨v, e, Lx, vs, f1, f2, f4, f5, f6⟩ := hA.hold i _ hl
  subst f1
  refine ⟨_, e, .inl ⟨rfl, _, SqL.of f4⟩, he φ σ w H _ _ X hn hA hm (fun a v I' H' pa s r => ?_) (kx hA.go k5)⟩
  have hA' := hA.step s
  obtain ⟨v', e', L', vs', g1, g2, g4, g5, g6⟩ := hA'.hold i _ hl
  rw [e] at e'
  cases e'
  cases g1
  refine ⟨Lx, vs', v, rfl, rfl, g4, by rw [prd_len g6]; exact pa.1, ?_⟩
  exact hu a φ σ (w.to I') _ Dn rt nx bk ct X hn (at_chL (A := A) (B := A) hA' e g2 (by rw [List.length_append]; exact pa.1) (paired_app g6 (.cons r .nil))) pa.2 k1 (kk2 s.i k2) (kk2 s.i k3) (kk2 s.i k4) k5
theorem at_frz {φ : Fr} {σ : L2.St} {w : Wd} {H : Hp} {i : Nat} {A : Rp α} {xs : List α} (hA : At φ Γ σ w H) (hl : look Γ i = some ⟨.l A, i, xs⟩) : ∃ w', At φ (⟨.p (rL A), i, xs⟩ :: Γ) σ w' H ∧ Same w.I w'.I := by
  obtain ⟨v, e, Lx, vs, f1, f2, f4, f5, f6⟩ := hA.hold i _ hl
  subst f1
  have old : ∀ {b : Addr}, φ.H0 b ≠ none → b ≠ Lx := fun {b} h z => by
    have := hA.go.onew b h
    rw [z, f2] at this
    cases this
  have ip : w.I Lx = none := (hA.go.apo Lx i f2).1
  have s1 : Same w.I (upd w.I Lx (.lst vs)) := My.same_upd ip
  refine ⟨⟨upd w.I Lx (.lst vs), fun b => if b = Lx then none else w.own b, w.wl⟩, ⟨⟨hA.go.i.trans s1, fun b hb => (show (upd w.I Lx (.lst vs)) b = w.I b from upd_ne (old hb)).trans (hA.go.inew b hb), fun b hb => (if_neg (old hb)).trans (hA.go.onew b hb), hA.go.wnew, hA.go.keep, fun b o q => ?_, fun b j q => ?_, fun b j q => ?_, hA.go.wells, hA.go.dom⟩, hA.len, fun k c q => ?_⟩, s1⟩
  · have q' : (upd w.I Lx (.lst vs)) b = some o := q
    by_cases z : b = Lx
    · subst z
      rw [upd_same] at q'
      rw [f4]
      exact q'
    · rw [upd_ne z] at q'
      exact hA.go.sub _ _ q'
  · have q' : (if b = Lx then none else w.own b) = some j := q
    by_cases z : b = Lx
    · rw [if_pos z] at q'
      cases q'
    · rw [if_neg z] at q'
      exact ⟨(show (upd w.I Lx (.lst vs)) b = w.I b from upd_ne z).trans (hA.go.apo b j q').1, (hA.go.apo b j q').2⟩
  · have z : b ≠ Lx := fun z => by
      have q' : w.wl b = some j := q
      rw [z, (hA.go.apo Lx i f2).2.2] at q'
      cases q'
    exact ⟨(show (upd w.I Lx (.lst vs)) b = w.I b from upd_ne z).trans (hA.go.apw b j q).1, (hA.go.apw b j q).2⟩
  · have q' : (match Nat.beq i k with | true => some (⟨.p (rL A), i, xs⟩ : Cell) | false => look Γ k) = some c := q
    cases z : Nat.beq i k with
    | true =>
      rw [z] at q'
      cases q'
      exact ⟨_, e, Lx, vs, rfl, upd_same, f5, prd_mono A s1 f6⟩
    | false =>
      rw [z] at q'
      have nz : i ≠ k := Nat.ne_of_beq_eq_false z
      have hi := look_i q'
      have hc := hA.hold k c q'
      obtain ⟨K, k2, x⟩ := c
      subst hi
      cases K with
      | p R =>
        obtain ⟨v, q, h⟩ := hc
        exact ⟨v, q, R.mn s1 h⟩
      | l R =>
        obtain ⟨v, q, L', vs', g1, g2, g3, g4, g5⟩ := hc
        exact ⟨v, q, L', vs', g1, (if_neg (fun z => nz (by rw [z, f2] at g2; exact Option.some.inj g2))).trans g2, g3, g4, prd_mono R s1 g5⟩
      | o F =>
        obtain ⟨v, q, l, g1, g2⟩ := hc
        have ne : ∀ b, l b ≠ none → b ≠ Lx := fun b hb z => nz (by
          have := (g1 b hb).1
          rw [z, f2] at this
          exact Option.some.inj this)
        exact ⟨v, q, l, fun b hb => ⟨(if_neg (ne b hb)).trans (g1 b hb).1, (g1 b hb).2⟩, F.mono s1 (fun _ _ => rfl) g2⟩
      | w k => exact hc
      | x => exact hc
/-- a list of a slot's own is left as it is from here on -/
theorem sb_frz (i : Nat) {t : TS} {A : Rp α} {xs : List α} {m : M γ S L} (hl : look Γ i = some ⟨.l A, i, xs⟩) (hu : SB Z (⟨.p (rL A), i, xs⟩ :: Γ) t R Γn Γl m) : SB Z Γ t R Γn Γl m := fun φ σ w H Dn rt nx bk ct X hn hA hm k1 k2 k3 k4 k5 => by
  obtain ⟨w', hA', s⟩ := at_frz hA hl
  exact hu φ σ w' H Dn rt nx bk ct X hn hA' hm k1 (kk2 s k2) (kk2 s k3) (kk2 s k4) k5
/-! ### defs -/
/-- the parameters' slots -/
def Prm (S : Rps β) (i : Nat) (cs : β → List Cell) : Prop := ∀ (J I : Hp) (vs : List V) (b : β) (σ : L2.St) (w : Wd) (H : Hp), S.top J I vs b → Same J w.I → Same I w.I → (∀ k v, vs[k]? = some v → σ[i + k]? = some (some v)) → HoldC σ w H (cs b)
theorem prm_nil {i : Nat} : Prm rs0 i (fun _ => []) := fun _ _ _ _ _ _ _ _ _ _ _ c hc => nomatch hc
theorem prm_cons {i : Nat} {A : Rp α} {S : Rps β} {cs : β → List Cell} (h : Prm S (i + 1) cs) : Prm (rsC A S) i (fun b => ⟨.p A, i, b.1⟩ :: cs b.2) := fun J I vs b σ w H ⟨v, r, e, ha, hs⟩ sj si hσ => by
  subst e
  exact holdCc ⟨v, hσ 0 v rfl, A.mono sj si ha⟩ (h J I r b.2 σ w H hs sj si (fun k u q => by
    have := hσ (k + 1) u (by simpa using q)
    rw [show i + 1 + k = i + (k + 1) by omega]
    exact this))
theorem start_at {N : List Str} {vs : List V} {k : Nat} {v : V} (h : vs[k]? = some v) (l : vs.length ≤ N.length) : (L2.start N vs)[k]? = some (some v) := by
  unfold L2.start
  have hk := (List.getElem?_eq_some_iff.mp h).1
  rw [List.getElem?_append_left (by rw [List.length_map]; exact hk), List.getElem?_map, h]
  rfl
theorem start_len {N : List Str} {vs : List V} (l : vs.length ≤ N.length) : (L2.start N vs).length = N.length := by
  unfold L2.start
  rw [List.length_append, List.length_map, List.length_replicate]
  omega
theorem hold_of {σ : L2.St} {w : Wd} {H : Hp} {cs : List Cell} (h : HoldC σ w H cs) : Hold σ w H cs := fun i c e => by
  rcases look_app (Γ := []) (by rw [List.append_nil]; exact e) with q | ⟨_, q⟩
  · exact h c q
  · cases q
/-- a body read: a def that changes nothing and raises nothing -/
theorem fn0 {K : PySem.W.Frag} {mg : Str → Option Value} {N : List Str} {t : TS} {S0 : Rps β} {R : Rp γ} {cs : β → List Cell} {m0 : β → D γ} {m : β → M γ Unit Unit} (pr : Prm S0 0 cs) (pl : ∀ J I vs b, S0.top J I vs b → vs.length ≤ N.length) {Γn : β → Unit → List Cell} {Γl : β → Unit → List Cell}
    (hb : ∀ b, SB ⟨K, mg, fun _ _ _ _ => False, N.length⟩ (cs b) t (Rf.of R) (Γn b) (Γl b) (m b))
    (hm : ∀ b P, m0 b P (fun _ => False) → m b P (fun _ => False) (fun _ => False) (fun _ => False) (fun _ => False)) {vs : List V} {H : Hp} {Q : VK} {E : XK} {q : L2.St → Hp → Prop} (h : spF0 S0 R m0 vs H Q E) : t { nx := q, rt := Q } (L2.start N vs) H := by
  obtain ⟨I, b, P, s, rp, km, kq⟩ := h
  have l := pl _ _ _ _ rp
  refine hb b ⟨N.length, ⟨I, fun _ => none, fun _ => none⟩, H⟩ (L2.start N vs) ⟨I, fun _ => none, fun _ => none⟩ H _ P _ _ _ _ rfl ⟨⟨Same.refl _, fun _ _ => rfl, fun _ _ => rfl, fun _ _ => rfl, fun _ _ _ h => h, s, (fun _ _ h => nomatch h), (fun _ _ h => nomatch h), fun _ _ ns _ h => ⟨ns, h, rfl⟩, fun _ h => h⟩, start_len l, hold_of (pr I I vs b _ _ H rp (Same.refl _) (Same.refl _) fun k v e => by rw [Nat.zero_add]; exact start_at e l)⟩ (hm b P km) (fun c v w' H' pc g r => kq c v w'.I H' pc ⟨g.i, g.sub, fun b o h => g.keep b o rfl h, g.inew⟩ r) (fun _ _ _ _ z => z.elim) (fun _ _ _ _ z => z.elim) (fun _ _ _ _ z => z.elim) (fun _ _ _ _ _ z => z.elim)
/-- one that returns nothing at its end too -/
theorem fn0N {K : PySem.W.Frag} {mg : Str → Option Value} {N : List Str} {t : TS} {S0 : Rps β} {cs : β → List Cell} {m0 : β → D Unit} {m : β → M Unit Unit Unit} (pr : Prm S0 0 cs) (pl : ∀ J I vs b, S0.top J I vs b → vs.length ≤ N.length) {Γl : β → Unit → List Cell}
    (hb : ∀ b, SB ⟨K, mg, fun _ _ _ _ => False, N.length⟩ (cs b) t (Rf.of rN) (fun _ => cs b) (Γl b) (m b))
    (hm : ∀ b P, m0 b P (fun _ => False) → m b P P (fun _ => False) (fun _ => False) (fun _ => False)) {vs : List V} {H : Hp} {Q : VK} {E : XK} (h : spF0 S0 rN m0 vs H Q E) : t { nx := fun _ H' => Q .non H', rt := Q } (L2.start N vs) H := by
  obtain ⟨I, b, P, s, rp, km, kq⟩ := h
  have l := pl _ _ _ _ rp
  refine hb b ⟨N.length, ⟨I, fun _ => none, fun _ => none⟩, H⟩ (L2.start N vs) ⟨I, fun _ => none, fun _ => none⟩ H _ P _ _ _ _ rfl ⟨⟨Same.refl _, fun _ _ => rfl, fun _ _ => rfl, fun _ _ => rfl, fun _ _ _ h => h, s, (fun _ _ h => nomatch h), (fun _ _ h => nomatch h), fun _ _ ns _ h => ⟨ns, h, rfl⟩, fun _ h => h⟩, start_len l, hold_of (pr I I vs b _ _ H rp (Same.refl _) (Same.refl _) fun k v e => by rw [Nat.zero_add]; exact start_at e l)⟩ (hm b P km) (fun c v w' H' pc g r => kq c v w'.I H' pc ⟨g.i, g.sub, fun b o h => g.keep b o rfl h, g.inew⟩ r) (fun c σ' w' H' pc a _ => kq () .non w'.I H' pc ⟨a.go.i, a.go.sub, fun b o h => a.go.keep b o rfl h, a.go.inew⟩ rfl) (fun _ _ _ _ z => z.elim) (fun _ _ _ _ z => z.elim) (fun _ _ _ _ _ z => z.elim)
/-- one that draws from a well, its first argument -/
theorem fnW {K : PySem.W.Frag} {mg : Str → Option Value} {N : List Str} {t : TS} {k : Nat} {S0 : Rps β} {R : Rp γ} {cs : β → List Cell} {m0 : β → D γ} {m : β → M γ Unit Unit} (pr : Prm S0 1 cs) (pl : ∀ J I vs b, S0.top J I vs b → vs.length + 1 ≤ N.length) {Γn : β → Unit → List Cell} {Γl : β → Unit → List Cell}
    (hb : ∀ b, SB ⟨K, mg, fun _ _ _ _ => False, N.length⟩ (⟨.w k, 0, ()⟩ :: cs b) t (Rf.of R) (Γn b) (Γl b) (m b))
    (hm : ∀ b P, m0 b P (fun _ => False) → m b P (fun _ => False) (fun _ => False) (fun _ => False) (fun _ => False)) {vs : List V} {H : Hp} {Q : VK} {E : XK} {q : L2.St → Hp → Prop} (h : spW k S0 R m0 vs H Q E) : t { nx := q, rt := Q } (L2.start N vs) H := by
  obtain ⟨W, ns, vs', I, b, P, rfl, hW, hk, iW, s, rp, km, kq⟩ := h
  have l := pl _ _ _ _ rp
  have l' : (V.ref W :: vs').length ≤ N.length := by rw [List.length_cons]; exact l
  have hw0 : ∀ c i, (if c = W then some 0 else none) = some i → c = W := fun c i h => by
    by_cases z : c = W
    · exact z
    · rw [if_neg z] at h
      cases h
  refine hb b ⟨N.length, ⟨I, fun _ => none, fun c => if c = W then some 0 else none⟩, H⟩ (L2.start N (.ref W :: vs')) ⟨I, fun _ => none, fun c => if c = W then some 0 else none⟩ H _ P _ _ _ _ rfl ⟨⟨Same.refl _, fun _ _ => rfl, fun _ _ => rfl, fun _ _ => rfl, fun _ _ _ h => h, s, (fun _ _ h => nomatch h), fun c i h => ?_, fun _ _ ns _ h => ⟨ns, h, rfl⟩, fun _ h => h⟩, start_len l', hold_of (holdCc ⟨.ref W, start_at rfl l', W, ns, rfl, if_pos rfl, hW, hk⟩ (pr I I vs' b _ _ H rp (Same.refl _) (Same.refl _) fun k v e => by
      rw [Nat.add_comm]
      exact start_at (by simpa using e) l'))⟩ (hm b P km) (fun c v w' H' pc g r => kq c v w'.I H' pc ⟨g.i, g.sub, fun b o z h => g.keep b o (if_neg z) h, ?_, g.inew⟩ r) (fun _ _ _ _ z => z.elim) (fun _ _ _ _ z => z.elim) (fun _ _ _ _ z => z.elim) (fun _ _ _ _ _ z => z.elim)
  · have := hw0 c i h
    subst this
    exact ⟨iW, nn hW⟩
  · obtain ⟨n2, q1, q2⟩ := g.wells W 0 ns (if_pos rfl) hW
    exact ⟨n2, q1, q2.trans hk⟩
end
end Lx
namespace Lx
open PySem PySem.Spec PyProof.Rows L2 TL
open My (Asc)
section
variable {Z : Px} {j : Bool} {Γ : List Cell} {α β γ δ : Type}
/-! ### ints -/
theorem ro_I0 {g : Int → Int → V} {R : Rp γ} {f : Int → Int → γ} (h : ∀ I i j, R.rep I (g i j) (f i j)) : RO2 (rI0 g) rI rI R (fun i j => D.pure (f i j)) := fun J I H v u a b Q P X sj s ha hb hk q => ⟨a, b, ha, hb, q _ _ I H hk (Gw.refl (sj.trans s)) (h _ _ _)⟩
theorem ro_I {C : Int → Int → Prop} {g : Int → Int → V} {R : Rp γ} {f : Int → Int → γ} (h : ∀ I i j, R.rep I (g i j) (f i j)) : RO2 (L2.rI C g) rI rI R (fun i j => D.need (C i j) (D.pure (f i j))) := fun J I H v u a b Q P X sj s ha hb hk q => ⟨a, b, ha, hb, hk.1, q _ _ I H hk.2 (Gw.refl (sj.trans s)) (h _ _ _)⟩
theorem ro_add : RO2 (rI0 fun i j => .int (i + j)) rI rI rI (fun i j => D.pure (i + j)) := ro_I0 fun _ _ _ => rfl
theorem ro_sub : RO2 (rI0 fun i j => .int (i - j)) rI rI rI (fun i j => D.pure (i - j)) := ro_I0 fun _ _ _ => rfl
theorem ro_mul : RO2 (L2.rI CMul fun i j => .int (i * j)) rI rI rI (fun i j => D.need (CMul i j) (D.pure (i * j))) := ro_I fun _ _ _ => rfl
theorem ro_fdiv : RO2 (L2.rI CDiv fun i j => .int (i / j)) rI rI rI (fun i j => D.need (CDiv i j) (D.pure (i / j))) := ro_I fun _ _ _ => rfl
theorem ro_mod : RO2 (L2.rI (fun _ j => 0 < j) fun i j => .int (i % j)) rI rI rI (fun i j => D.need (0 < j) (D.pure (i % j))) := ro_I fun _ _ _ => rfl
theorem ro_pow : RO2 (L2.rI CPow fun i j => .int (i ^ j.toNat)) rI rI rI (fun i j => D.need (CPow i j) (D.pure (i ^ j.toNat))) := ro_I fun _ _ _ => rfl
theorem ro_lt : RO2 (rI0 fun i j => .bl (decide (i < j))) rI rI rB (fun i j => D.pure (decide (i < j))) := ro_I0 fun _ _ _ => rfl
theorem ro_le : RO2 (rI0 fun i j => .bl (decide (i ≤ j))) rI rI rB (fun i j => D.pure (decide (i ≤ j))) := ro_I0 fun _ _ _ => rfl
theorem ro_neg : RO1 (rU fun i => .int (-i)) rI rI (fun i => D.pure (-i)) := fun J I H v a Q P X sj s ha hk q => ⟨a, ha, q _ _ I H hk (Gw.refl (sj.trans s)) rfl⟩
/-- ==, != of flat things -/
structure Fl (A : Rp α) (f : α → V) : Prop where
  to : ∀ J I v a, A.top J I v a → v = f a
theorem ro_eq {A : Rp α} {B : Rp β} {f : α → V} {g : β → V} {c : α → β → Bool} (fa : Fl A f) (fb : Fl B g) (sc : ∀ a b, scal (f a) (g b) = true) (hc : ∀ a b, decide (f a = g b) = c a b) : RO2 rEq A B rB (fun a b => D.pure (c a b)) := fun J I H v u a b Q P X sj s ha hb hk q => by
  rw [fa.to _ _ _ _ ha, fb.to _ _ _ _ hb]
  exact ⟨sc _ _, q _ _ I H hk (Gw.refl (sj.trans s)) (congrArg V.bl (hc a b))⟩
theorem ro_ne {A : Rp α} {B : Rp β} {f : α → V} {g : β → V} {c : α → β → Bool} (fa : Fl A f) (fb : Fl B g) (sc : ∀ a b, scal (f a) (g b) = true) (hc : ∀ a b, decide (f a = g b) = c a b) : RO2 rNe A B rB (fun a b => D.pure (!c a b)) := fun J I H v u a b Q P X sj s ha hb hk q => by
  rw [fa.to _ _ _ _ ha, fb.to _ _ _ _ hb]
  exact ⟨sc _ _, q _ _ I H hk (Gw.refl (sj.trans s)) (by rw [hc a b]; rfl)⟩
theorem fl_I : Fl rI V.int := ⟨fun _ _ _ _ h => h⟩
theorem fl_B : Fl rB V.bl := ⟨fun _ _ _ _ h => h⟩
theorem fl_S : Fl rS V.str := ⟨fun _ _ _ _ h => h.1⟩
theorem fl_C : Fl rC (fun c => V.str ⟨#[c]⟩) := ⟨fun _ _ _ _ h => h.1⟩
theorem fl_OI : Fl (rO rI) My.oV := ⟨fun _ _ v a h => by
  cases a with
  | none => exact h
  | some n => exact h.2⟩
theorem dec_int (a b : Int) : decide (V.int a = V.int b) = decide (a = b) := by simp
theorem dec_str (a b : Str) : decide (V.str a = V.str b) = decide (a = b) := by simp
theorem dec_bl (a b : Bool) : decide (V.bl a = V.bl b) = decide (a = b) := by simp
theorem dec_oV (a b : Option Int) : decide (My.oV a = My.oV b) = decide (a = b) := by cases a <;> cases b <;> simp [My.oV]
theorem sc_oV (a b : Option Int) : scal (My.oV a) (My.oV b) = true := by cases a <;> cases b <;> rfl
theorem ro_eqI : RO2 rEq rI rI rB (fun a b => D.pure (decide (a = b))) := ro_eq fl_I fl_I (fun _ _ => rfl) dec_int
theorem ro_neI : RO2 rNe rI rI rB (fun a b => D.pure (!decide (a = b))) := ro_ne fl_I fl_I (fun _ _ => rfl) dec_int
theorem ro_eqS : RO2 rEq rS rS rB (fun a b => D.pure (decide (a = b))) := ro_eq fl_S fl_S (fun _ _ => rfl) dec_str
theorem ro_neS : RO2 rNe rS rS rB (fun a b => D.pure (!decide (a = b))) := ro_ne fl_S fl_S (fun _ _ => rfl) dec_str
theorem ro_eqB : RO2 rEq rB rB rB (fun a b => D.pure (decide (a = b))) := ro_eq fl_B fl_B (fun _ _ => rfl) dec_bl
theorem ro_neB : RO2 rNe rB rB rB (fun a b => D.pure (!decide (a = b))) := ro_ne fl_B fl_B (fun _ _ => rfl) dec_bl
theorem ro_eqO : RO2 rEq (rO rI) (rO rI) rB (fun a b => D.pure (decide (a = b))) := ro_eq fl_OI fl_OI sc_oV dec_oV
theorem ro_neO : RO2 rNe (rO rI) (rO rI) rB (fun a b => D.pure (!decide (a = b))) := ro_ne fl_OI fl_OI sc_oV dec_oV
theorem ro_isN {A : Rp α} : RO2 (fun x y H Q => y = .non ∧ Q (.bl (decide (x = .non))) H) (rO A) rN rB (fun a _ => D.pure a.isNone) := fun J I H v u a b Q P X sj s ha hb hk q => ⟨hb, q _ _ I H hk (Gw.refl (sj.trans s)) (by
  cases a with
  | none => rw [show v = .non from ha]; rfl
  | some n => exact congrArg V.bl (decide_eq_false ha.1))⟩
theorem ro_notN {A : Rp α} : RO2 (fun x y H Q => y = .non ∧ Q (.bl (!decide (x = .non))) H) (rO A) rN rB (fun a _ => D.pure a.isSome) := fun J I H v u a b Q P X sj s ha hb hk q => ⟨hb, q _ _ I H hk (Gw.refl (sj.trans s)) (by
  cases a with
  | none => rw [show v = .non from ha]; rfl
  | some n => rw [decide_eq_false ha.1]; rfl)⟩
/-! ### texts -/
theorem ro_addS : RO2 (fun x y H Q => ∃ i j, x = .str i ∧ y = .str j ∧ i.length + j.length ≤ sizeLine ∧ Q (.str (i ++ j)) H) rS rS rS (fun a b => D.need (a.length + b.length ≤ sizeLine) (D.pure (a ++ b))) := fun J I H v u a b Q P X sj s ha hb hk q => ⟨a, b, ha.1, hb.1, hk.1, q _ _ I H hk.2 (Gw.refl (sj.trans s)) ⟨rfl, My.asc_app ha.2.1 hb.2.1, by rw [My.len_app]; exact hk.1⟩⟩
theorem asc_one {z : Str} (h : Asc z) {c : Nat} (hc : c ∈ z.cps.toList) : Asc ⟨#[c]⟩ := fun d hd => by
  have : d = c := by simpa using hd
  rw [this]
  exact h c hc
theorem atI_mem {xs : List α} {i : Int} {c : α} (h : atI xs i = some c) : c ∈ xs := by
  unfold atI at h
  obtain ⟨k, _, h⟩ := Option.bind_eq_some_iff.mp h
  exact List.mem_of_getElem? h
def atD (xs : List α) (i : Int) : D α := fun P _ => ∃ a, atI xs i = some a ∧ P a
theorem ro_ixS : RO2 rIxS rS rI rS (fun z i => D.bind (atD z.cps.toList i) fun c => D.pure ⟨#[c]⟩) := fun J I H v u a b Q P X sj s ha hb hk q => by
  obtain ⟨c, e, p⟩ := hk
  exact ⟨a, b, c, ha.1, hb, ha.2.2, e, q _ _ I H p (Gw.refl (sj.trans s)) ⟨rfl, asc_one ha.2.1 (atI_mem e), by show 1 ≤ sizeLine; decide⟩⟩
theorem ro_inC : RO2 (fun x y H Q => ∃ (c : Nat) (z : Str), x = .str ⟨#[c]⟩ ∧ y = .str z ∧ Q (.bl (decide (c ∈ z.cps.toList))) H) rC rS rB (fun c z => D.pure (decide (c ∈ z.cps.toList))) := fun J I H v u a b Q P X sj s ha hb hk q => ⟨a, b, ha.1, hb.1, q _ _ I H hk (Gw.refl (sj.trans s)) rfl⟩
theorem ro_notInC : RO2 (fun x y H Q => ∃ (c : Nat) (z : Str), x = .str ⟨#[c]⟩ ∧ y = .str z ∧ Q (.bl (!decide (c ∈ z.cps.toList))) H) rC rS rB (fun c z => D.pure (!decide (c ∈ z.cps.toList))) := fun J I H v u a b Q P X sj s ha hb hk q => ⟨a, b, ha.1, hb.1, q _ _ I H hk (Gw.refl (sj.trans s)) rfl⟩
/-- text * int -/
def rMulS : R2 := fun x y H Q => ∃ (a : Str) (n : Int), x = .str a ∧ y = .int n ∧ MulOk a n ∧ Q (.str (Txt.mul a n)) H
theorem op_mulS {X : Cx} : OpR X (binaryOp .Mult) rMulS := by
  intro pins s σ H x y v u Q I rx ry h
  obtain ⟨a, n, rfl, rfl, hm, q⟩ := h
  obtain ⟨t, rfl⟩ := rx
  obtain ⟨t2, rfl⟩ := ry
  exact SB.mul hm fun t' k => ⟨.str _, H, I.tok _, ⟨_, rfl⟩, q⟩
theorem foldl_app (xs : List (Array Nat)) (acc : Array Nat) : (xs.foldl (· ++ ·) acc).toList = acc.toList ++ (xs.map Array.toList).flatten := by
  induction xs generalizing acc with
  | nil => simp
  | cons x r ih => rw [List.foldl_cons, ih]; simp
theorem mul_len (a : Str) (n : Int) : (Txt.mul a n).length ≤ a.length * n.toNat := by
  unfold Txt.mul
  split
  · exact Nat.zero_le _
  · rename_i h
    split
    · rename_i h2
      simp only [Bool.or_eq_true, beq_iff_eq] at h2
      rcases h2 with h2 | h2
      · subst h2; simp
      · rw [h2]; simp
    · show ((List.replicate n.toNat a.cps).foldl (· ++ ·) #[]).size ≤ _
      rw [← Array.length_toList, foldl_app, List.map_replicate]
      simp [Str.length, Nat.mul_comm]
theorem mul_asc {a : Str} (n : Int) (h : Asc a) : Asc (Txt.mul a n) := by
  unfold Txt.mul
  split
  · exact fun c hc => nomatch hc
  · split
    · exact h
    · intro c hc
      have hc' : c ∈ ((List.replicate n.toNat a.cps).foldl (· ++ ·) #[]).toList := hc
      rw [foldl_app, List.map_replicate] at hc'
      simp only [List.nil_append, List.mem_flatten, List.mem_replicate] at hc'
      obtain ⟨l, ⟨_, rfl⟩, hl⟩ := hc'
      exact h c hl
theorem mulOk_of {a : Str} {n : Int} (h : a.length * n.toNat ≤ 100000) (h0 : 0 ≤ n) (h1 : n ≤ 100000) : MulOk a n := by
  refine ⟨Bool.or_eq_false_iff.mpr ⟨decide_eq_false (by omega), decide_eq_false (by omega)⟩, fun g1 g2 g3 => ?_, fun g1 g2 => ?_⟩
  · have hn : 0 < n := by omega
    have : (a.length : Int) * n ≤ 100000 := by
      have : ((a.length * n.toNat : Nat) : Int) ≤ ((100000 : Nat) : Int) := Int.ofNat_le.mpr h
      rw [Int.natCast_mul, Int.toNat_of_nonneg h0] at this
      exact this
    have h3 : (2 ^ 63 - 1) / n < (a.length : Int) := g3
    have := Int.lt_mul_of_ediv_lt hn h3
    omega
  · exact decide_eq_false (Nat.not_lt.mpr (Nat.le_trans h (by decide)))
theorem ro_mulS : RO2 rMulS rS rI rS (fun a n => D.need (a.length * n.toNat ≤ 100000 ∧ 0 ≤ n ∧ n ≤ 100000) (D.pure (Txt.mul a n))) := fun J I H v u a b Q P X sj s ha hb hk q => ⟨a, b, ha.1, hb, mulOk_of hk.1.1 hk.1.2.1 hk.1.2.2, q _ _ I H hk.2 (Gw.refl (sj.trans s)) ⟨rfl, mul_asc _ ha.2.1, Nat.le_trans (mul_len _ _) (Nat.le_trans hk.1.1 (by decide))⟩⟩
/-! ### lists -/
theorem paired_at {α β : Type} {R : α → β → Prop} : ∀ {a : List α} {b : List β} {i : Nat} {y : β}, Paired R a b → b[i]? = some y → ∃ x, a[i]? = some x ∧ R x y
  | _, _, _, _, .nil, h => by simp at h
  | _, _, 0, _, .cons r t, h => by
    cases h
    exact ⟨_, rfl, r⟩
  | _, _, n + 1, _, .cons r t, h => by
    obtain ⟨y, h1, h2⟩ := paired_at (i := n) t h
    exact ⟨y, h1, h2⟩
theorem atI_of {vs : List V} {xs : List α} {R : V → α → Prop} {i : Int} {a : α} (pr : Paired R vs xs) (h : atI xs i = some a) : ∃ v, atI vs i = some v ∧ R v a := by
  unfold atI at h ⊢
  rw [prd_len pr]
  obtain ⟨k, h1, h⟩ := Option.bind_eq_some_iff.mp h
  obtain ⟨v, e, r⟩ := paired_at pr h
  exact ⟨v, by rw [h1]; exact e, r⟩
theorem ro_ixL {K : PySem.W.Frag} {A : Rp α} : RO2 (rIxL K) (rL A) rI A (fun xs i => atD xs i) := fun J I H v u a b Q P X sj s ha hb hk q => by
  obtain ⟨p, vs, rfl, e, l, pr⟩ := ha
  obtain ⟨c, ec, pc⟩ := hk
  obtain ⟨x, ex, rx⟩ := atI_of pr ec
  exact ⟨p, vs, b, x, rfl, hb, SqL.of (s _ _ e), ex, q _ _ I H pc (Gw.refl (sj.trans s)) rx⟩
theorem ro_cat {A : Rp α} : RO2 rCat (rL A) (rL A) (rL A) (fun xs ys => D.need (xs.length + ys.length ≤ sizeLine) (D.pure (xs ++ ys))) := fun J I H v u a b Q P X sj s ha hb hk q => by
  obtain ⟨p, vs, rfl, e, l, pr⟩ := ha
  obtain ⟨p2, vs2, rfl, e2, l2, pr2⟩ := hb
  refine ⟨p, p2, vs, vs2, rfl, rfl, s _ _ e, s _ _ e2, by rw [prd_len pr, prd_len pr2]; exact hk.1, fun n hn => ?_⟩
  have g := Gw.new1 (sj.trans s) hn (.lst (vs ++ vs2))
  exact q _ _ _ _ hk.2 g ⟨n, _, rfl, upd_same, by rw [List.length_append]; exact hk.1, prd_mono A g.i (paired_app pr pr2)⟩
theorem ro_lenL {K : PySem.W.Frag} {A : Rp α} : ROA (fun xs H Q => ∃ p ys, xs = [.ref p] ∧ (SqL K H p ys ∨ SqT K H p ys) ∧ Q (.int ys.length) H) (rsC (rL A) rs0) rI (fun b => D.pure (b.1.length : Int)) := fun J I H vs b Q P X sj s ⟨v, r, e, ⟨p, us, e1, e2, l, pr⟩, h2⟩ hk q => by
  cases (show r = [] from h2)
  subst e1
  exact ⟨p, us, e, .inl (SqL.of (s _ _ e2)), q _ _ I H hk (Gw.refl (sj.trans s)) (by rw [prd_len pr]; rfl)⟩
theorem ro_lenT {K : PySem.W.Frag} {A : Rp α} : ROA (fun xs H Q => ∃ p ys, xs = [.ref p] ∧ (SqL K H p ys ∨ SqT K H p ys) ∧ Q (.int ys.length) H) (rsC (rT K A) rs0) rI (fun b => D.pure (b.1.l.length : Int)) := fun J I H vs b Q P X sj s ⟨v, r, e, ⟨p, us, e1, e2, l, pr⟩, h2⟩ hk q => by
  cases (show r = [] from h2)
  subst e1
  exact ⟨p, us, e, .inr (Same.seqT s e2), q _ _ I H hk (Gw.refl (sj.trans s)) (by rw [prd_len pr]; rfl)⟩
theorem ro_lenS : ROA (fun xs H Q => ∃ z, xs = [.str z] ∧ z.length ≤ sizeLine ∧ Q (.int z.length) H) (rsC rS rs0) rI (fun b => D.pure (b.1.length : Int)) := fun J I H vs b Q P X sj s ⟨v, r, e, e1, h2⟩ hk q => by
  cases (show r = [] from h2)
  cases e1.1
  exact ⟨b.1, e, e1.2.2, q _ _ I H hk (Gw.refl (sj.trans s)) rfl⟩
theorem ro_strI : ROA (fun xs H Q => ∃ i, xs = [.int i] ∧ i.natAbs.log2 < 1920 ∧ Q (.str (toString i)) H) (rsC rI rs0) rS (fun b => D.need (b.1.natAbs.log2 < 1920 ∧ Asc (toString b.1) ∧ (toString b.1 : Str).length ≤ sizeLine) (D.pure (toString b.1))) := fun J I H vs b Q P X sj s ⟨v, r, e, e1, h2⟩ hk q => by
  cases (show r = [] from h2)
  cases (show v = .int b.1 from e1)
  exact ⟨b.1, e, hk.1.1, q _ _ I H hk.2 (Gw.refl (sj.trans s)) ⟨rfl, hk.1.2.1, hk.1.2.2⟩⟩
theorem ro_intS : ROA (fun xs H Q => ∃ a n, xs = [.str a] ∧ PySem.intText? a = some n ∧ a.length ≤ 640 ∧ Q (.int n) H) (rsC rS rs0) rI (fun b => fun P _ => ∃ n, PySem.intText? b.1 = some n ∧ b.1.length ≤ 640 ∧ P n) := fun J I H vs b Q P X sj s ⟨v, r, e, e1, h2⟩ hk q => by
  cases (show r = [] from h2)
  cases e1.1
  obtain ⟨n, h1, h3, h4⟩ := hk
  exact ⟨b.1, n, e, h1, h3, q _ _ I H h4 (Gw.refl (sj.trans s)) rfl⟩
theorem bools_of {I : Hp} : ∀ {vs : List V} {bs : List Bool}, Paired (rB.rep I) vs bs → vs = bs.map V.bl
  | _, _, .nil => rfl
  | _, _, .cons h t => by rw [List.map_cons, ← bools_of t, show _ = V.bl _ from h]
theorem ints_of {I : Hp} : ∀ {vs : List V} {bs : List Int}, Paired (rI.rep I) vs bs → vs = bs.map V.int
  | _, _, .nil => rfl
  | _, _, .cons h t => by rw [List.map_cons, ← ints_of t, show _ = V.int _ from h]
theorem strs_of {I : Hp} : ∀ {vs : List V} {bs : List Str}, Paired (rS.rep I) vs bs → vs = bs.map V.str
  | _, _, .nil => rfl
  | _, _, .cons h t => by rw [List.map_cons, ← strs_of t, h.1]
theorem strs_asc {I : Hp} : ∀ {vs : List V} {bs : List Str}, Paired (rS.rep I) vs bs → ∀ z ∈ bs, Asc z ∧ z.length ≤ sizeLine
  | _, _, .nil => fun z h => nomatch h
  | _, _, .cons h t => fun z hz => by
    rcases List.mem_cons.mp hz with rfl | hz
    · exact h.2
    · exact strs_asc t z hz
theorem of_strs {I : Hp} : ∀ {bs : List Str}, (∀ z ∈ bs, Asc z ∧ z.length ≤ sizeLine) → Paired (rS.rep I) (bs.map V.str) bs
  | [], _ => .nil
  | b :: r, h => .cons ⟨rfl, h b (List.mem_cons_self ..)⟩ (of_strs fun z hz => h z (List.mem_cons_of_mem _ hz))
theorem ro_all {K : PySem.W.Frag} : ROA (rAll K) (rsC (rL rB) rs0) rB (fun b => D.pure (b.1.all id)) := fun J I H vs b Q P X sj s ⟨v, r, e, ⟨p, us, e1, e2, l, pr⟩, h2⟩ hk q => by
  cases (show r = [] from h2)
  subst e1
  exact ⟨p, b.1, e, by rw [← bools_of pr]; exact SqL.of (s _ _ e2), q _ _ I H hk (Gw.refl (sj.trans s)) rfl⟩
theorem ro_any {K : PySem.W.Frag} : ROA (rAny K) (rsC (rL rB) rs0) rB (fun b => D.pure (b.1.any id)) := fun J I H vs b Q P X sj s ⟨v, r, e, ⟨p, us, e1, e2, l, pr⟩, h2⟩ hk q => by
  cases (show r = [] from h2)
  subst e1
  exact ⟨p, b.1, e, by rw [← bools_of pr]; exact SqL.of (s _ _ e2), q _ _ I H hk (Gw.refl (sj.trans s)) rfl⟩
theorem ro_sum {K : PySem.W.Frag} : ROA (rSum K) (rsC (rL rI) rs0) rI (fun b => D.pure b.1.sum) := fun J I H vs b Q P X sj s ⟨v, r, e, ⟨p, us, e1, e2, l, pr⟩, h2⟩ hk q => by
  cases (show r = [] from h2)
  subst e1
  exact ⟨p, b.1, e, by rw [← ints_of pr]; exact SqL.of (s _ _ e2), q _ _ I H hk (Gw.refl (sj.trans s)) rfl⟩
theorem ro_df {K : PySem.W.Frag} {f : List Int → Option Int} : ROK (My.rDf K f) (rsC (rL rI) rs0) (rsC rI rs0) rI (fun b d => D.pure ((f b.1).getD d.1)) := fun J I H vs us b d Q P X sj s ⟨v, r, e, ⟨p, ws, e1, e2, l, pr⟩, h2⟩ ⟨v2, r2, e3, e4, h4⟩ hk q => by
  cases (show r = [] from h2)
  cases (show r2 = [] from h4)
  subst e1
  cases (show v2 = .int d.1 from e4)
  exact ⟨p, b.1, .int d.1, e, e3, by rw [← ints_of pr]; exact SqL.of (s _ _ e2), q _ _ I H hk (Gw.refl (sj.trans s)) (by show My.orV (.int d.1) (f b.1) = .int ((f b.1).getD d.1); cases f b.1 <;> rfl)⟩
theorem ro_dfN {K : PySem.W.Frag} {f : List Int → Option Int} : ROK (My.rDf K f) (rsC (rL rI) rs0) (rsC rN rs0) (rO rI) (fun b d => D.pure (f b.1)) := fun J I H vs us b d Q P X sj s ⟨v, r, e, ⟨p, ws, e1, e2, l, pr⟩, h2⟩ ⟨v2, r2, e3, e4, h4⟩ hk q => by
  cases (show r = [] from h2)
  cases (show r2 = [] from h4)
  subst e1
  cases (show v2 = .non from e4)
  exact ⟨p, b.1, .non, e, e3, by rw [← ints_of pr]; exact SqL.of (s _ _ e2), q _ _ I H hk (Gw.refl (sj.trans s)) (by
    cases f b.1 with
    | none => exact rfl
    | some n => exact (show V.int n ≠ .non ∧ V.int n = .int n from And.intro (fun e => by cases e) rfl))⟩
/-! ### methods of texts -/
theorem join_asc {a : Str} {ys : List Str} (ha : Asc a) (hy : ∀ z ∈ ys, Asc z) : Asc (Txt.join a ys) := by
  have h : ∀ (S : List Nat) (ps : List (List Nat)), (∀ c ∈ S, c < 128) → (∀ p ∈ ps, ∀ c ∈ p, c < 128) → ∀ c ∈ joinL S ps, c < 128 := by
    intro S ps hS
    induction ps with
    | nil => intro _ c hc; cases hc
    | cons p r ih =>
      intro hp c hc
      cases r with
      | nil => exact hp p (List.mem_cons_self ..) c hc
      | cons q r =>
        have hc' : c ∈ p ++ (S ++ joinL S (q :: r)) := hc
        rcases List.mem_append.mp hc' with h | h
        · exact hp p (List.mem_cons_self ..) c h
        · rcases List.mem_append.mp h with h | h
          · exact hS c h
          · exact ih (fun y hy => hp y (List.mem_cons_of_mem _ hy)) c h
  intro c hc
  have e : tl (Txt.join a ys) = joinL (tl a) (ys.map tl) := by rw [join_eq, tl_join]
  have hc' : c ∈ tl (Txt.join a ys) := hc
  rw [e] at hc'
  refine h _ _ ha (fun p hp => ?_) c hc'
  obtain ⟨z, hz, rfl⟩ := List.mem_map.mp hp
  exact hy z hz
theorem ty_S {K : PySem.W.Frag} : TyR K "str" rS := fun J I H v a s h => by
  rw [h.1]
  rfl
theorem ty_L {K : PySem.W.Frag} {A : Rp α} : TyR K "list" (rL A) := fun J I H v a s ⟨p, vs, e, h, _⟩ => by
  rw [e]
  exact .inl ⟨rfl, _, SqL.of (s _ _ h)⟩
/-! ### parts of sequences -/
def SP (Z : Px) (Γ : List Cell) (t : TO) (m : D (Option Int)) : Prop :=
  ∀ (φ : Fr) (σ : L2.St) (w : Wd) (H : Hp) (Q : Option Int → Hp → Prop) (P : Option Int → Prop) (X : Ex → Prop), φ.n = Z.n → At φ Γ σ w H → m P X →
    (∀ a I' H', P a → Go w H I' H' → Q a H') →
    (∀ e c d I' H', X e → Go w H I' H' → e.rep Z.K Z.mg I' c d → Z.E σ c d H') → t σ H Q
theorem sp_none : SP Z Γ tNoPart (D.pure none) := fun φ σ w H Q P X hn hA hm k x => k none w.I H hm hA.rf
theorem sp_some {t : TE} {m : D Int} (h : SE Z true Γ t rI m) : SP Z Γ (tPart t) (D.bind m fun i => D.pure (some i)) := fun φ σ w H Q P X hn hA hm k x => h φ σ w H _ _ X hn hA hm (fun a v I' H' pa s r => ⟨a, r, k _ I' H' pa s⟩) x
def ROS (r : V → Option Int → Option Int → Hp → VK → Prop) (A : Rp α) (C : Rp γ) (k : α → Option Int → Option Int → D γ) : Prop := ∀ (J I H : Hp) (v : V) (a : α) (lo hi : Option Int) (Q : VK) (P : γ → Prop) (X : Ex → Prop), Same I J → Same J H → A.top J I v a → k a lo hi P X →
  (∀ c x I' H', P c → Gw I H I' H' → C.rep I' x c → Q x H') → r v lo hi H Q
theorem se_sl {r : V → Option Int → Option Int → Hp → VK → Prop} {A : Rp α} {C : Rp γ} {k : α → Option Int → Option Int → D γ} {te : TE} {tl th : TO} {ma : D α} {ml mh : D (Option Int)} (ro : ROS r A C k) (ha : SE Z true Γ te A ma) (hl : SP Z Γ tl ml) (hh : SP Z Γ th mh) : SE Z j Γ (L2.tSl r te tl th) C (D.bind ma fun a => D.bind ml fun lo => D.bind mh fun hi => k a lo hi) := fun φ σ w H Q P X hn hA hm kk x =>
  ha φ σ w H _ _ X hn hA hm (fun a v I1 H1 pa s1 ra => hl φ σ (w.to I1) H1 _ _ X hn (hA.step s1) pa (fun lo I2 H2 pb s2 => hh φ σ (w.to I2) H2 _ _ X hn (hA.step (s1.trans s2)) pb (fun hi I3 H3 pc s3 => by
    have g := (s1.trans s2).trans s3
    exact ro (Jn w H3) I3 H3 v a lo hi Q P X (i_jn (w := w.to I3) (hA.step g).go) (tp_sub (j := true) s3.sub) (A.mono (tp_go (w := w.to I1) (j := true) (s2.trans s3)) (s2.trans s3).i ra) pc fun c y I' H' pc g' rc =>
      kk c y I' H' pc (g.trans (.of_gw g')) (C.up (i_tp (w := w.to I') j (hA.step (g.trans (.of_gw g'))).go) rc)) (xg (s1.trans s2) x)) (xg s1 x)) x
theorem ro_slS : ROS rSlS rS rS (fun z lo hi => D.pure (cutS z lo hi)) := fun J I H v a lo hi Q P X sj s ha hk q => ⟨a, ha.1, ha.2.2, q _ _ I H hk (Gw.refl (sj.trans s)) ⟨rfl, My.asc_cut ha.2.1 _ _, Nat.le_trans (My.cutS_len _ _ _) ha.2.2⟩⟩
def cutL (xs : List α) (lo hi : Option Int) : List α := (xs.drop (HT.sIx xs.length 0 lo)).take (HT.sIx xs.length xs.length hi - HT.sIx xs.length 0 lo)
theorem prd_drop {R : V → α → Prop} : ∀ (n : Nat) {vs : List V} {xs : List α}, Paired R vs xs → Paired R (vs.drop n) (xs.drop n)
  | 0, _, _, h => h
  | n + 1, _, _, .nil => .nil
  | n + 1, _, _, .cons _ t => prd_drop n t
theorem prd_take {R : V → α → Prop} : ∀ (n : Nat) {vs : List V} {xs : List α}, Paired R vs xs → Paired R (vs.take n) (xs.take n)
  | 0, _, _, h => by simp only [List.take_zero]; exact .nil
  | n + 1, _, _, .nil => .nil
  | n + 1, _, _, .cons r t => .cons r (prd_take n t)
theorem cutL_len (xs : List α) (lo hi : Option Int) : (cutL xs lo hi).length ≤ xs.length := by
  unfold cutL
  rw [List.length_take, List.length_drop]
  omega
theorem cut_prd {R : V → α → Prop} {vs : List V} {xs : List α} (h : Paired R vs xs) (lo hi : Option Int) : Paired R (cutV vs lo hi) (cutL xs lo hi) := by
  unfold cutV cutL
  rw [prd_len h]
  exact prd_take _ (prd_drop _ h)
theorem ro_slL {K : PySem.W.Frag} {A : Rp α} : ROS (rSlL K) (rL A) (rL A) (fun xs lo hi => D.pure (cutL xs lo hi)) := fun J I H v a lo hi Q P X sj s ⟨p, vs, e, h, l, pr⟩ hk q => ⟨p, vs, e, SqL.of (s _ _ h), fun n hn => by
  have g := Gw.new1 (sj.trans s) hn (.lst (cutV vs lo hi))
  exact q _ _ _ _ hk g ⟨n, _, rfl, upd_same, Nat.le_trans (cutL_len _ _ _) l, prd_mono A g.i (cut_prd pr lo hi)⟩⟩
theorem ro_slScr {K : PySem.W.Frag} {A : Rp α} : ROS (rSlL K) (rScr K A) (rL A) (fun xs lo hi => D.pure (cutL xs.l lo hi)) := fun J I H v a lo hi Q P X sj s ⟨p, vs, e, h, l, pr⟩ hk q => ⟨p, vs, e, s.seq h, fun n hn => by
  have g := Gw.new1 (sj.trans s) hn (.lst (cutV vs lo hi))
  exact q _ _ _ _ hk g ⟨n, _, rfl, upd_same, Nat.le_trans (cutL_len _ _ _) l, prd_mono A g.i (cut_prd pr lo hi)⟩⟩
/-! ### walks -/
theorem si_str {te : TE} {m : D Str} (h : SE Z true Γ te rS m) : SI Z j Γ (iStr te) rC (D.bind m fun z => D.pure z.cps.toList) := fun φ σ w H Rr P X hn hA hm k x =>
  h φ σ w H _ _ X hn hA hm (fun z v I' H' pa s r => ⟨z, r.1, k _ _ I' H' pa s (by rw [My.len_tl]; exact r.2.2) ⟨fun H _ => by show z.cps.size ≤ _; rw [Array.length_toList]; exact Nat.le_refl _, fun i H hi _ => by rw [Array.length_toList] at hi; exact hi, fun i I H1 y H2 hi _ s0 s1 ⟨e1, c, e2, e3⟩ => by
    have e4 := My.at_l e2
    exact ⟨c, I, e4, by rw [e1]; exact Gw.refl s1, e3, r.2.1 c (List.mem_of_getElem? e4)⟩⟩⟩) x
theorem si_enum {K : PySem.W.Frag} (hK : Z.K = K) {ta : TA} {A : Rp α} {m : D (List α × Unit)} (h : SA Z j Γ ta (rsC (rL A) rs0) m) : SI Z j Γ (iEnum Z.K ta) (rTu K (rsC rI (rsC A rs0))) (D.bind m fun b => D.pure (b.1.zipIdx.map fun p => Tu.mk ((p.2 : Int), p.1, ()))) := fun φ σ w H Rr P X hn hA hm k x =>
  h φ σ w H _ _ X hn hA hm (fun b vs I' H' pa s ⟨v, r, e, ⟨p, us, e1, e2, l, pr⟩, h2⟩ => by
    cases (show r = [] from h2)
    subst e1
    have ln : (b.1.zipIdx.map fun p : α × Nat => Tu.mk ((p.2 : Int), p.1, ())).length = b.1.length := by rw [List.length_map, List.length_zipIdx]
    refine ⟨p, us, e, SqL.of (tp_sub s.sub _ _ e2), k _ _ I' H' pa s (by rw [ln]; exact l) ⟨fun H1 s1 => ⟨us, SqL.of (s1 _ _ e2), by rw [ln, prd_len pr]; exact Nat.le_refl _⟩, fun i H1 hi s1 => ?_, fun i I H1 y H2 hi s1 s0 s2 ⟨T, z, ez, hT, eH, hy⟩ => ?_⟩⟩
    · rw [ln] at hi
      obtain ⟨v, c, q1, _, _⟩ := prd_get pr hi
      exact ⟨us, v, SqL.of (s1 _ _ e2), q1⟩
    · rw [ln] at hi
      obtain ⟨v, c, q1, q2, q3⟩ := prd_get pr hi
      have := hy us (SqL.of (s1 _ _ e2))
      rw [q1] at this
      cases this
      have g := Gw.new1 s2 hT (.tup [.int (i : Nat), z])
      refine ⟨Tu.mk ((i : Int), c, ()), _, ?_, by rw [eH]; exact g, ?_⟩
      · rw [List.getElem?_map, List.getElem?_zipIdx, q2]
        simp
      · subst ez
        exact ⟨T, _, rfl, SqT.of upd_same, .int (i : Nat), [z], rfl, rfl, z, [], rfl, A.mn (s0.trans g.i) q3, rfl⟩) x
end
end Lx
namespace Lx
open PySem PySem.Spec PyProof.Rows L2 TL
section
variable {X : Cx} (K : PySem.W.Frag)
theorem ixLK (h : X.K = K) : IxR X (rIxL K) := h ▸ ix_list
theorem ixTK (h : X.K = K) : IxR X (rIxT K) := h ▸ ix_tup
theorem slLK (h : X.K = K) : SlR X (rSlL K) := h ▸ sl_list
theorem slTK (h : X.K = K) : SlR X (rSlT K) := h ▸ sl_tup
theorem inK (h : X.K = K) : OpR X (compareOp .In) (rIn K false) := h ▸ op_in_seq
theorem notInK (h : X.K = K) : OpR X (compareOp .NotIn) (rIn K true) := h ▸ op_notIn_seq
theorem inDK (h : X.K = K) (hu : X.A.units + 65 < cLine) : OpR X (compareOp .In) (rInD K) := h ▸ op_inD hu
theorem notInDK (h : X.K = K) (hu : X.A.units + 65 < cLine) : OpR X (compareOp .NotIn) (rNotInD K) := h ▸ op_notInD hu
theorem eqDK (h : X.K = K) (hu : X.A.units + 64 < cLine) : OpR X (compareOp .Eq) (rEqD K) := h ▸ op_eqD hu
theorem neDK (h : X.K = K) (hu : X.A.units + 64 < cLine) : OpR X (compareOp .NotEq) (rNeD K) := h ▸ op_neD hu
theorem lenK (h : X.K = K) : CallR X (.builtin "len") (fun xs H Q => ∃ p ys, xs = [.ref p] ∧ (SqL K H p ys ∨ SqT K H p ys) ∧ Q (.int ys.length) H) := h ▸ call_len_seq
theorem allK (h : X.K = K) (hc : X.calm = true) : CallR X (.builtin "all") (rAll K) := h ▸ cr_all hc
theorem anyK (h : X.K = K) (hc : X.calm = true) : CallR X (.builtin "any") (rAny K) := h ▸ cr_any hc
theorem sumK (h : X.K = K) (hc : X.calm = true) : CallR X (.builtin "sum") (rSum K) := h ▸ cr_sum hc
theorem isiK (h : X.K = K) : CallR X (.builtin "isinstance") (rIsi K) := h ▸ call_isi
theorem isiTK (h : X.K = K) : CallR X (.builtin "isinstance") (rIsiT K) := h ▸ call_isiT
theorem listK (h : X.K = K) : CallR X (.type "list") (fun xs H Q => ∃ p ys, xs = [.ref p] ∧ (SqL K H p ys ∨ SqT K H p ys) ∧ ∀ l, H l = none → Q (.ref l) (upd H l (.lst ys))) := h ▸ call_list_of
theorem tupleK (h : X.K = K) : CallR X (.type "tuple") (fun xs H Q => ∃ p ys, xs = [.ref p] ∧ ((SqL K H p ys ∧ ∀ l, H l = none → Q (.ref l) (upd H l (.tup ys))) ∨ (SqT K H p ys ∧ Q (.ref p) H))) := h ▸ call_tuple_of
theorem minDfK (h : X.K = K) (hc : X.calm = true) (hu : X.A.units + 64 < cLine) : CallRK X (.builtin "min") ["default"] (My.rDf K My.minI) := h ▸ My.cr_minDf hc hu
theorem maxDfK (h : X.K = K) (hc : X.calm = true) (hu : X.A.units + 64 < cLine) : CallRK X (.builtin "max") ["default"] (My.rDf K My.maxI) := h ▸ My.cr_maxDf hc hu
theorem pe_fldK {e : Expr} {ta : TE} {f : Str} {pos : Pos} (h : X.K = K) (he : PE X e ta) (hb : attributeBase e f X.env (eval e X.env) = eval e X.env) : PE X (.Attribute e f pos) (tFld K ta f) := h ▸ pe_fld he hb
theorem pi_listK {tg e : Expr} {t : TE} (h : X.K = K) (he : PE X e t) : PI X tg e (iList K t) := h ▸ pi_list he
theorem pi_tupK {tg e : Expr} {t : TE} (h : X.K = K) (he : PE X e t) : PI X tg e (iTup K t) := h ▸ pi_tup he
theorem bmK {T : String} {e : Expr} {r : V → List V → Hp → VK → Prop} {to : TE} {t : TA} (h : X.K = K) (p : PE X e (tBM X.K T r to t)) : PE X e (tBM K T r to t) := h ▸ p
/-- what a join asks, by the written part -/
def rJoin (K : PySem.W.Frag) : V → List V → Hp → VK → Prop := fun x xs H Q => ∃ a p, ∃ ys : List Str, x = .str a ∧ xs = [.ref p] ∧ (SqL K H p (ys.map V.str) ∨ SqT K H p (ys.map V.str)) ∧ (ys.map (·.length)).sum + ys.length * a.length ≤ 16777216 ∧ Q (.str (Txt.join a ys)) H
theorem joinK {e : Expr} {to te : TE} (h : X.K = K) (p : PE X e (tM1 (rJoin X.K) to te)) : PE X e (tM1 (rJoin K) to te) := h ▸ p
end
open My (Asc)
theorem ro_join {K : PySem.W.Frag} : ROM (rJoin K) rS (rsC (rL rS) rs0) rS
    (fun a b => D.need ((b.1.map (·.length)).sum + b.1.length * a.length ≤ 16000000) (D.pure (Txt.join a b.1))) := fun J I H v us a b Q P X sj s ha ⟨v2, r, e, ⟨p, ws, e1, e2, l, pr⟩, h2⟩ hk q => by
  cases (show r = [] from h2)
  subst e1
  have hy := strs_asc pr
  exact ⟨a, p, b.1, ha.1, e, .inl (by rw [← strs_of pr]; exact SqL.of (s _ _ e2)), Nat.le_trans hk.1 (by decide), q _ _ I H hk.2 (Gw.refl (sj.trans s)) ⟨rfl, join_asc ha.2.1 fun z hz => (hy z hz).1, Nat.le_trans (My.join_len a b.1) (Nat.le_trans hk.1 (by decide))⟩⟩
end Lx
namespace Lx
open PySem PySem.Spec PyProof.Rows L2 TL
open My (Asc)
section
variable {Z : Px} {j : Bool} {Γ : List Cell} {α β γ δ : Type} {K : PySem.W.Frag}
/-! ### statements that join -/
section
variable {S L S' : Type} {R : Rf γ} {Γn : S → List Cell} {Γl : L → List Cell}
def RowOk (Γb : List Cell) : List Cell → Prop
  | [] => True
  | c :: r => (c = ⟨.x, c.i, ()⟩ ∨ look Γb c.i = some c) ∧ RowOk Γb r
theorem row_mem {Γb : List Cell} : ∀ {r : List Cell}, RowOk Γb r → ∀ c ∈ r, c = ⟨.x, c.i, ()⟩ ∨ look Γb c.i = some c
  | _ :: _, ⟨h, t⟩, c, hc => by
    rcases List.mem_cons.mp hc with rfl | hc
    · exact h
    · exact row_mem t c hc
theorem look_skip {Γ : List Cell} {i : Nat} : ∀ {B : List Cell}, i ∉ B.map (·.i) → look (B ++ Γ) i = look Γ i
  | [], _ => rfl
  | c :: r, h => by
    rw [List.map_cons, List.mem_cons, not_or] at h
    show (match Nat.beq c.i i with | true => some c | false => look (r ++ Γ) i) = _
    have e : Nat.beq c.i i = false := by
      cases q : Nat.beq c.i i with
      | false => rfl
      | true => exact absurd (Nat.eq_of_beq_eq_true q).symm h.1
    rw [e]
    exact look_skip h.2
def Cov (B r : List Cell) : Bool := B.all fun c => r.any fun d => Nat.beq d.i c.i
theorem row_hold {Γb Γ r : List Cell} {k : Nat} (hd : Γb.drop k = Γ) (cv : Cov (Γb.take k) r = true) (ok : RowOk Γb r) {σ : L2.St} {w : Wd} {H : Hp} (h : Hold σ w H Γb) : Hold σ w H (r ++ Γ) := fun i c e => by
  rcases look_app e with q | ⟨q1, q2⟩
  · rcases row_mem ok c q with z | z
    · rw [z]
      exact trivial
    · exact h _ c z
  · refine h i c ?_
    rw [← List.take_append_drop k Γb, hd, look_skip ?_]
    · exact q2
    · intro hi
      obtain ⟨d, hd1, hd2⟩ := List.mem_map.mp hi
      have := List.all_eq_true.mp cv d hd1
      obtain ⟨e, he1, he2⟩ := List.any_eq_true.mp this
      exact q1 (List.mem_map.mpr ⟨e, he1, (Nat.eq_of_beq_eq_true he2).trans hd2⟩)
theorem sb_nextK {Γb : List Cell} {ρ : S → List Cell} {s : S} (k : Nat) (hd : Γb.drop k = Γ) (cv : Cov (Γb.take k) (ρ s) = true) (ok : RowOk Γb (ρ s)) : SB Z Γb tNext R (fun s => ρ s ++ Γ) Γl (fun _ nx _ _ _ => nx s) := fun φ σ w H Dn rt nx bk ct X hn hA hm k1 k2 k3 k4 k5 => k2 s σ w H hm ⟨hA.go, hA.len, row_hold hd cv ok hA.hold⟩ (Same.refl _)
theorem sb_ctK {Γb : List Cell} {ρ : L → List Cell} {s : L} (k : Nat) (hd : Γb.drop k = Γ) (cv : Cov (Γb.take k) (ρ s) = true) (ok : RowOk Γb (ρ s)) : SB Z Γb tCont R Γn (fun s => ρ s ++ Γ) (fun _ _ _ ct _ => ct s) := fun φ σ w H Dn rt nx bk ct X hn hA hm k1 k2 k3 k4 k5 => k4 s σ w H hm ⟨hA.go, hA.len, row_hold hd cv ok hA.hold⟩ (Same.refl _)
theorem sb_brkK {Γb : List Cell} {ρ : L → List Cell} {s : L} (k : Nat) (hd : Γb.drop k = Γ) (cv : Cov (Γb.take k) (ρ s) = true) (ok : RowOk Γb (ρ s)) : SB Z Γb tBreak R Γn (fun s => ρ s ++ Γ) (fun _ _ bk _ _ => bk s) := fun φ σ w H Dn rt nx bk ct X hn hA hm k1 k2 k3 k4 k5 => k3 s σ w H hm ⟨hA.go, hA.len, row_hold hd cv ok hA.hold⟩ (Same.refl _)
theorem sb_join {c : TT} {t u r : TS} {mc : D Bool} {m1 m2 : M γ S' L} {m : S' → M γ S L} (ρ : S' → List Cell) (hc : ST Z Γ c mc) (ht : SB Z Γ t R (fun s => ρ s ++ Γ) Γl m1) (hu : SB Z Γ u R (fun s => ρ s ++ Γ) Γl m2) (hr : ∀ s, SB Z (ρ s ++ Γ) r R Γn Γl (m s)) :
    SB Z Γ (tSeq (tIfS c t u) r) R Γn Γl (fun rt nx bk ct X => mc (fun b => if b = true then m1 rt (fun s => m s rt nx bk ct X) bk ct X else m2 rt (fun s => m s rt nx bk ct X) bk ct X) X) := sb_seq (sb_if hc ht hu) hr
theorem sb_loop {wi : TI} {g : TG} {tb r : TS} {A : Rp α} {is : List Nat} {cs : α → List Cell} {mi : D (List α)} {body : α → S' → M γ S' S'} {m : S' → M γ S L} (ρ : S' → List Cell) {s0 : S'} (hi : SI Z false Γ wi A mi) (hg : SG Z.K g A is cs) (hin : is.all (fun i => decide (i < Z.n)) = true)
    (ok : RowOk Γ (ρ s0)) (hb : ∀ x s, SB Z (cs x ++ (ρ s ++ Γ)) tb R (fun s => ρ s ++ Γ) (fun s => ρ s ++ Γ) (body x s)) (hr : ∀ s, SB Z (ρ s ++ Γ) r R Γn Γl (m s)) :
    SB Z Γ (tSeq (tFor wi g tb) r) R Γn Γl (fun rt nx bk ct X => mi (fun xs => forD body rt (fun s => m s rt nx bk ct X) X xs s0) X) := fun φ σ w H Dn rt nx bk ct X hn hA hm k1 k2 k3 k4 k5 =>
  hi φ σ w H _ _ X hn hA hm (fun xs T I1 H1 px s1 hl wk => by
    have hA1 := hA.step s1
    refine ⟨fun i n σ' H' => ∃ w' s, i + n = xs.length ∧ At φ (ρ s ++ Γ) σ' w' H' ∧ Same I1 w'.I ∧ forD body rt (fun s => m s rt nx bk ct X) X (xs.drop i) s, ⟨xs.length, w.to I1, s0, by omega, ⟨hA1.go, hA1.len, row_hold (k := 0) rfl rfl ok hA1.hold⟩, Same.refl _, px⟩, ?_⟩
    rintro i n σ' H' ⟨w', s, em, hA', s', pf⟩
    by_cases he : i = xs.length
    · left
      subst he
      rw [List.drop_length] at pf
      exact ⟨wk.stop H' (s'.trans hA'.go.sub), hr s φ σ' w' H' Dn rt nx bk ct X hn hA' pf k1 (kk2 (s1.i.trans s') k2) (kk2 (s1.i.trans s') k3) (kk2 (s1.i.trans s') k4) k5⟩
    · right
      have hi' : i < xs.length := by omega
      refine ⟨wk.go i H' hi' (s'.trans hA'.go.sub), fun σ2 H2 => ∃ w2 s2, At φ (ρ s2 ++ Γ) σ2 w2 H2 ∧ Same I1 w2.I ∧ forD body rt (fun s => m s rt nx bk ct X) X (xs.drop (i + 1)) s2, fun σ2 H2 ⟨w2, s2, hA2, z2, pf2⟩ => ⟨n - 1, by omega, w2, s2, by omega, hA2, z2, pf2⟩, fun x H2 hy => ?_⟩
      obtain ⟨a, I', ea, gw, ra⟩ := wk.yld i w'.I H' x H2 hi' (s'.trans hA'.go.sub) s' hA'.go.sub hy
      have hA2 := hA'.step (.of_gw gw)
      have ed : xs.drop i = a :: xs.drop (i + 1) := by
        rw [List.drop_eq_getElem_cons hi']
        rw [List.getElem?_eq_getElem hi'] at ea
        cases ea
        rfl
      rw [ed] at pf
      refine hg.2 x a σ' (w'.to I') H2 Z.n _ (hA2.len.trans hn) (fun i z => of_decide_eq_true (List.all_eq_true.mp hin i z)) hA2.go.sub ra fun σ2 hl2 he2 hh2 => ?_
      have sB : Same I1 I' := s'.trans gw.i
      exact hb a s φ σ2 (w'.to I') H2 _ rt _ _ _ X hn ⟨hA2.go, hl2.trans hn.symm, hold_tgt he2 (hg.1 a) hh2 hA2.hold⟩ pf k1
        (fun s2 σ3 w3 H3 p3 hA3 z3 => ⟨w3, s2, hA3, sB.trans z3, p3⟩) (fun s2 σ3 w3 H3 p3 hA3 z3 => hr s2 φ σ3 w3 H3 Dn rt nx bk ct X hn hA3 p3 k1 (kk2 (s1.i.trans (sB.trans z3)) k2) (kk2 (s1.i.trans (sB.trans z3)) k3) (kk2 (s1.i.trans (sB.trans z3)) k4) k5) (fun s2 σ3 w3 H3 p3 hA3 z3 => ⟨w3, s2, hA3, sB.trans z3, p3⟩) k5)
    (kx hA.go k5)
end
/-! ### written lists: their length is plain -/
def rsLn (R : Rp α) (n : Nat) : Rps (List α) := ⟨fun _ I vs xs => Paired (R.rep I) vs xs ∧ vs.length = n, fun _ t h => ⟨prd_mono R t h.1, h.2⟩⟩
theorem ln_nil {R : Rp α} : SA Z false Γ tNil (rsLn R 0) (D.pure []) := fun φ σ w H Q P X hn hA hm k _ => k [] [] w.I H hm hA.rf ⟨.nil, rfl⟩
theorem ln_cons {n : Nat} {t : TE} {u : TA} {R : Rp α} {m : D α} {m2 : D (List α)} (h : SE Z false Γ t R m) (h' : SA Z false Γ u (rsLn R n) m2) : SA Z false Γ (tCons t u) (rsLn R (n + 1)) (D.bind m fun a => D.bind m2 fun b => D.pure (a :: b)) := fun φ σ w H Q P X hn hA hm k x =>
  h φ σ w H _ _ X hn hA hm (fun a v I1 H1 pa s1 ra => h' φ σ (w.to I1) H1 _ _ X hn (hA.step s1) pa (fun b vs I2 H2 pb s2 rb => k _ _ I2 H2 pb (s1.trans s2) ⟨.cons (R.mn s2.i ra) rb.1, congrArg Nat.succ rb.2⟩) (xg s1 x)) x
theorem ln_le {n : Nat} {R : Rp α} {J I : Hp} {vs : List V} {xs : List α} (l : n ≤ 1000) (h : (rsLn R n).top J I vs xs) : vs.length ≤ sizeLine ∧ xs.length ≤ sizeLine := by
  have e := h.2
  have e2 := prd_len h.1
  have : 1000 ≤ sizeLine := by decide
  omega
theorem se_lstn {n : Nat} {t : TA} {R : Rp α} {m : D (List α)} (h : SA Z false Γ t (rsLn R n) m) (l : n ≤ 1000 := by decide) : SE Z j Γ (tLst t) (rL R) m := fun φ σ w H Q P X hn hA hm k x =>
  h φ σ w H _ _ X hn hA hm (fun xs vs I1 H1 pa s1 ra => ⟨(ln_le l ra).1, fun p hp => by
    have g := s1.trans (go_new1 (w := w.to I1) s1.sub hp (.lst vs))
    exact k xs _ _ _ pa g ((rL R).up (i_tp (w := w.to _) j (hA.step g).go) ⟨p, vs, rfl, upd_same, (ln_le l ra).2, prd_mono R (My.same_upd (s1.sub.free hp)) ra.1⟩)⟩) x
section
variable {S L S' : Type} {R : Rf γ} {Γn : S → List Cell} {Γl : L → List Cell}
theorem sb_newLn {n i : Nat} {t : TA} {u : TS} {A : Rp α} {me : D (List α)} {m : List α → M γ S L} (hi : i < Z.n) (he : SA Z false Γ t (rsLn A n) me) (hu : ∀ ys, SB Z (⟨.l A, i, ys⟩ :: Γ) u R Γn Γl (m ys)) (l : n ≤ 1000 := by decide) :
    SB Z Γ (tSeq (tAsg (tLst t) (gName i)) u) R Γn Γl (fun rt nx bk ct X => me (fun ys => m ys rt nx bk ct X) X) := fun φ σ w H Dn rt nx bk ct X hn hA hm k1 k2 k3 k4 k5 =>
  he φ σ w H _ _ X hn hA hm (fun ys us I' H' pa s r => ⟨(ln_le l r).1, fun p hp => hu ys φ (σ.set i (some (.ref p))) _ _ Dn rt nx bk ct X hn (at_newL (hA.step s) (by rw [hn]; exact hi) hp (ln_le l r).2 r.1) pa k1 (kk2 s.i k2) (kk2 s.i k3) (kk2 s.i k4) k5⟩)
    (kx hA.go k5)
end
theorem SE.get {t : TE} {R : Rp α} {m : D (Option α)} (h : SE Z j Γ t (rO R) m) : SE Z j Γ t R (D.bind m fun o => fun P _ => ∃ a, o = some a ∧ P a) := SE.cast (fun J I v o P X r hp => by
  obtain ⟨a, rfl, pa⟩ := hp
  exact ⟨a, pa, r.2⟩) h
/-! ### other names of the same things -/
theorem co_some_int : ∀ (J I : Hp) v a, rI.top J I v a → (rO rI).top J I v (some a) := fun J I v a h => And.intro (fun e => by rw [show v = .int a from h] at e; cases e) h
theorem co_some_str : ∀ (J I : Hp) v a, rS.top J I v a → (rO rS).top J I v (some a) := fun J I v a h => And.intro (fun e => by rw [h.1] at e; cases e) h
theorem co_some_tu {S : Rps β} : ∀ (J I : Hp) v a, (rTu K S).top J I v a → (rO (rTu K S)).top J I v (some a) := fun J I v a h => And.intro (fun e => by obtain ⟨p, vs, q, _⟩ := h; rw [q] at e; cases e) h
theorem co_some_list {R : Rp α} : ∀ (J I : Hp) v a, (rL R).top J I v a → (rO (rL R)).top J I v (some a) := fun J I v a h => And.intro (fun e => by obtain ⟨p, vs, q, _⟩ := h; rw [q] at e; cases e) h
theorem co_sign : ∀ (J I : Hp) v (c : Nat), rC.top J I v c → rS.top J I v ⟨#[c]⟩ := fun J I v c h => ⟨h.1, fun d hd => by
  have : d = c := by simpa using hd
  rw [this]
  exact h.2, by show 1 ≤ sizeLine; decide⟩
theorem co_lq {R : Rp α} : ∀ (J I : Hp) v a, (rL R).top J I v a → (rQ K R).top J I v ⟨a⟩ := fun J I v a ⟨p, vs, e, h, l, pr⟩ => ⟨p, vs, e, .inl h, l, pr⟩
theorem co_tq {R : Rp α} : ∀ (J I : Hp) v (a : Tv α), (rT K R).top J I v a → (rQ K R).top J I v ⟨a.l⟩ := fun J I v a ⟨p, vs, e, h, l, pr⟩ => ⟨p, vs, e, .inr h, l, pr⟩
/-! ### ints, once more -/
theorem ro_gt : RO2 (rI0 fun i j => .bl (decide (j < i))) rI rI rB (fun i j => D.pure (decide (j < i))) := ro_I0 fun _ _ _ => rfl
theorem ro_ge : RO2 (rI0 fun i j => .bl (decide (j ≤ i))) rI rI rB (fun i j => D.pure (decide (j ≤ i))) := ro_I0 fun _ _ _ => rfl
theorem ro_intB : ROA (fun xs H Q => (∃ i, xs = [.int i] ∧ Q (.int i) H) ∨ ∃ k, xs = [.bl k] ∧ Q (.int (if k then 1 else 0)) H) (rsC rB rs0) rI (fun b => D.pure (if b.1 then 1 else 0)) := fun J I H vs b Q P X sj s ⟨v, r, e, e1, h2⟩ hk q => by
  cases (show r = [] from h2)
  cases (show v = .bl b.1 from e1)
  exact .inr ⟨b.1, e, q _ _ I H hk (Gw.refl (sj.trans s)) rfl⟩
/-! ### places of tuples -/
theorem se_tix {n : Nat} {r : R2} {A : Rp α} {B : Rp β} {f : α → β} {ta : TE} {ma : D α} (ro : RO2 r A rI B (fun a i => D.need (i = (n : Int)) (D.pure (f a)))) (ha : SE Z true Γ ta A ma) : SE Z j Γ (tOp r ta (tC (.int (n : Int)))) B (D.bind ma fun a => D.pure (f a)) := fun φ σ w H Q P X hn hA hm k x =>
  se_op (j := j) ro ha (se_int (i := (n : Int))) φ σ w H Q P X hn hA (by
    show ma (fun a => (n : Int) = (n : Int) ∧ P (f a)) X
    have e : (fun a => (n : Int) = (n : Int) ∧ P (f a)) = fun a => P (f a) := by
      funext a
      exact propext ⟨fun h => h.2, fun h => ⟨rfl, h⟩⟩
    rw [e]
    exact hm) k x
theorem ro_t {S : Rps β} {A : Rp α} {f : β → α} {n : Nat} (h : ∀ J I vs b, S.top J I vs b → ∃ v, vs[n]? = some v ∧ A.top J I v (f b)) : RO2 (rIxT K) (rTu K S) rI A (fun t i => D.need (i = (n : Int)) (D.pure (f t.r))) := fun J I H v u a b Q P X sj s ha hb hk q => by
  obtain ⟨p, vs, rfl, e, r⟩ := ha
  obtain ⟨x, ex, rx⟩ := h _ _ _ _ r
  cases hk.1
  exact ⟨p, vs, (n : Int), x, rfl, hb, Same.seqT s e, atI_nat ex, q _ _ I H hk.2 (Gw.refl (sj.trans s)) rx⟩
section
variable {A0 : Rp α} {A1 : Rp β} {A2 : Rp γ} {A3 : Rp δ} {ε ζ : Type} {A4 : Rp ε} {S : Rps ζ}
theorem se_tu0 {ta : TE} {ma : D (Tu (α × ζ))} (ha : SE Z true Γ ta (rTu Z.K (rsC A0 S)) ma) : SE Z j Γ (tOp (rIxT Z.K) ta (tC (.int 0))) A0 (D.bind ma fun t => D.pure t.r.1) := se_tix (n := 0) (ro_t (S := rsC A0 S) (n := 0) fun J I vs b ⟨v, r, e, h, _⟩ => ⟨v, by rw [e]; rfl, h⟩) ha
theorem se_tu1 {ta : TE} {ma : D (Tu (α × β × ζ))} (ha : SE Z true Γ ta (rTu Z.K (rsC A0 (rsC A1 S))) ma) : SE Z j Γ (tOp (rIxT Z.K) ta (tC (.int 1))) A1 (D.bind ma fun t => D.pure t.r.2.1) := se_tix (n := 1) (ro_t (S := rsC A0 (rsC A1 S)) (n := 1) fun J I vs b ⟨v, r, e, _, v1, r1, e1, h, _⟩ => ⟨v1, by rw [e, e1]; rfl, h⟩) ha
theorem se_tu2 {ta : TE} {ma : D (Tu (α × β × γ × ζ))} (ha : SE Z true Γ ta (rTu Z.K (rsC A0 (rsC A1 (rsC A2 S)))) ma) : SE Z j Γ (tOp (rIxT Z.K) ta (tC (.int 2))) A2 (D.bind ma fun t => D.pure t.r.2.2.1) := se_tix (n := 2) (ro_t (S := rsC A0 (rsC A1 (rsC A2 S))) (n := 2) fun J I vs b ⟨v, r, e, _, v1, r1, e1, _, v2, r2, e2, h, _⟩ => ⟨v2, by rw [e, e1, e2]; rfl, h⟩) ha
end
/-! ### written tuples of texts -/
theorem se_tc {a : Addr} {zs : List Str} (q : ∀ H : Hp, SqT Z.K H a (zs.map V.str)) (h : (∀ z ∈ zs, Asc z ∧ z.length ≤ 1000) ∧ zs.length ≤ 1000) : SE Z j Γ (tC (.ref a)) (rT Z.K rS) (D.pure ⟨zs⟩) := se_c fun J I => ⟨a, zs.map V.str, rfl, q J, Nat.le_trans h.2 (by decide), of_strs fun z hz => ⟨(h.1 z hz).1, Nat.le_trans (h.1 z hz).2 (by decide)⟩⟩
/-! ### texts among texts -/
theorem ro_inSL0 {neg : Bool} : RO2 (rIn K neg) rS (rL rS) rB (fun a xs => D.pure (if neg then !decide (a ∈ xs) else decide (a ∈ xs))) := fun J I H v u a b Q P X sj s ha hb hk q => by
  obtain ⟨p, vs, rfl, e, l, pr⟩ := hb
  rw [strs_of pr] at e
  rw [ha.1]
  refine ⟨p, _, rfl, .inl (SqL.of (s _ _ e)), rfl, My.flat_strs _, ?_⟩
  rw [My.inV_strs]
  exact q _ _ I H hk (Gw.refl (sj.trans s)) (by cases neg <;> rfl)
theorem ro_inST0 {neg : Bool} : RO2 (rIn K neg) rS (rT K rS) rB (fun a xs => D.pure (if neg then !decide (a ∈ xs.l) else decide (a ∈ xs.l))) := fun J I H v u a b Q P X sj s ha hb hk q => by
  obtain ⟨p, vs, rfl, e, l, pr⟩ := hb
  rw [strs_of pr] at e
  rw [ha.1]
  refine ⟨p, _, rfl, .inr (Same.seqT s e), rfl, My.flat_strs _, ?_⟩
  rw [My.inV_strs]
  exact q _ _ I H hk (Gw.refl (sj.trans s)) (by cases neg <;> rfl)
theorem ro_notInSL : RO2 (rIn K true) rS (rL rS) rB (fun a xs => D.pure (!decide (a ∈ xs))) := ro_inSL0 (neg := true)
theorem ro_inSL : RO2 (rIn K false) rS (rL rS) rB (fun a xs => D.pure (decide (a ∈ xs))) := ro_inSL0 (neg := false)
theorem ro_notInST : RO2 (rIn K true) rS (rT K rS) rB (fun a xs => D.pure (!decide (a ∈ xs.l))) := ro_inST0 (neg := true)
theorem ro_inST : RO2 (rIn K false) rS (rT K rS) rB (fun a xs => D.pure (decide (a ∈ xs.l))) := ro_inST0 (neg := false)
/-! ### methods of texts -/
theorem ro_strip : ROM (fun x xs H Q => ∃ a b, x = .str a ∧ xs = [.str b] ∧ a.length ≤ sizeLine ∧ Q (.str (Txt.stripChars a b)) H) rS (rsC rS rs0) rS (fun a b => D.need (Asc (Txt.stripChars a b.1) ∧ (Txt.stripChars a b.1).length ≤ a.length) (D.pure (Txt.stripChars a b.1))) := fun J I H v us a b Q P X sj s ha ⟨v2, r, e, h1, h2⟩ hk q => by
  cases (show r = [] from h2)
  cases h1.1
  exact ⟨a, b.1, ha.1, e, ha.2.2, q _ _ I H hk.2 (Gw.refl (sj.trans s)) ⟨rfl, hk.1.1, Nat.le_trans hk.1.2 ha.2.2⟩⟩
theorem ro_find : ROM (fun x xs H Q => ∃ a b, x = .str a ∧ xs = [.str b] ∧ Q (.int (Txt.find a b)) H) rS (rsC rS rs0) rI (fun a b => D.pure (Txt.find a b.1)) := fun J I H v us a b Q P X sj s ha ⟨v2, r, e, h1, h2⟩ hk q => by
  cases (show r = [] from h2)
  cases h1.1
  exact ⟨a, b.1, ha.1, e, q _ _ I H hk (Gw.refl (sj.trans s)) rfl⟩
theorem ro_upper : ROM (fun x xs H Q => ∃ a, x = .str a ∧ xs = [] ∧ a.length ≤ 5592405 ∧ Q (.str (Txt.upper a)) H) rS rs0 rS (fun a _ => D.need (a.length ≤ 5592405 ∧ Asc (Txt.upper a) ∧ (Txt.upper a).length ≤ sizeLine) (D.pure (Txt.upper a))) := fun J I H v us a b Q P X sj s ha h2 hk q => by
  cases (show us = [] from h2)
  exact ⟨a, ha.1, rfl, hk.1.1, q _ _ I H hk.2 (Gw.refl (sj.trans s)) ⟨rfl, hk.1.2⟩⟩
theorem ro_split : ROM (fun x xs H Q => ∃ a b, x = .str a ∧ xs = [.str b] ∧ (b.length == 0) = false ∧ a.length + 2 ≤ sizeLine ∧ rNewStrs (Txt.split a b) H Q) rS (rsC rS rs0) (rL rS) (fun a b => D.need ((b.1.length == 0) = false ∧ a.length + 2 ≤ sizeLine ∧ (Txt.split a b.1).length ≤ sizeLine ∧ ∀ z ∈ Txt.split a b.1, Asc z ∧ z.length ≤ sizeLine) (D.pure (Txt.split a b.1))) := fun J I H v us a b Q P X sj s ha ⟨v2, r, e, h1, h2⟩ hk q => by
  cases (show r = [] from h2)
  cases h1.1
  refine ⟨a, b.1, ha.1, e, hk.1.1, hk.1.2.1, fun p hp => ?_⟩
  have g := Gw.new1 (sj.trans s) hp (.lst ((Txt.split a b.1).map V.str))
  exact q _ _ _ _ hk.2 g ⟨p, _, rfl, upd_same, hk.1.2.2.1, of_strs hk.1.2.2.2⟩
theorem ro_partition {K : PySem.W.Frag} : ROM (fun x xs H Q => ∃ a b, x = .str a ∧ xs = [.str b] ∧ (b.length == 0) = false ∧ a.length ≤ sizeLine ∧
      ∀ p, H p = none → Q (.ref p) (upd H p (.tup [.str (Txt.partition a b).1, .str (Txt.partition a b).2.1, .str (Txt.partition a b).2.2]))) rS (rsC rS rs0) (rTu K (rsC rS (rsC rS (rsC rS rs0))))
    (fun a b => D.need ((b.1.length == 0) = false ∧ (Asc (Txt.partition a b.1).1 ∧ (Txt.partition a b.1).1.length ≤ sizeLine) ∧ (Asc (Txt.partition a b.1).2.1 ∧ (Txt.partition a b.1).2.1.length ≤ sizeLine) ∧ Asc (Txt.partition a b.1).2.2 ∧ (Txt.partition a b.1).2.2.length ≤ sizeLine) (D.pure ⟨(Txt.partition a b.1).1, (Txt.partition a b.1).2.1, (Txt.partition a b.1).2.2, ()⟩)) := fun J I H v us a b Q P X sj s ha ⟨v2, r, e, h1, h2⟩ hk q => by
  cases (show r = [] from h2)
  cases h1.1
  refine ⟨a, b.1, ha.1, e, hk.1.1, ha.2.2, fun p hp => ?_⟩
  have g := Gw.new1 (sj.trans s) hp (.tup [.str (Txt.partition a b.1).1, .str (Txt.partition a b.1).2.1, .str (Txt.partition a b.1).2.2])
  exact q _ _ _ _ hk.2 g ⟨p, _, rfl, SqT.of upd_same, _, _, rfl, ⟨rfl, hk.1.2.1⟩, _, _, rfl, ⟨rfl, hk.1.2.2.1⟩, _, _, rfl, ⟨rfl, hk.1.2.2.2⟩, rfl⟩
/-! ### list(..), tuple(..) -/
theorem ro_listL {A : Rp α} : ROA (fun xs H Q => ∃ p ys, xs = [.ref p] ∧ (SqL K H p ys ∨ SqT K H p ys) ∧ ∀ l, H l = none → Q (.ref l) (upd H l (.lst ys))) (rsC (rL A) rs0) (rL A) (fun b => D.pure b.1) := fun J I H vs b Q P X sj s ⟨v, r, e, ⟨p, us, e1, e2, l, pr⟩, h2⟩ hk q => by
  cases (show r = [] from h2)
  subst e1
  refine ⟨p, us, e, .inl (SqL.of (s _ _ e2)), fun n hn => ?_⟩
  have g := Gw.new1 (sj.trans s) hn (.lst us)
  exact q _ _ _ _ hk g ⟨n, _, rfl, upd_same, l, prd_mono A g.i pr⟩
theorem ro_listT {A : Rp α} : ROA (fun xs H Q => ∃ p ys, xs = [.ref p] ∧ (SqL K H p ys ∨ SqT K H p ys) ∧ ∀ l, H l = none → Q (.ref l) (upd H l (.lst ys))) (rsC (rT K A) rs0) (rL A) (fun b => D.pure b.1.l) := fun J I H vs b Q P X sj s ⟨v, r, e, ⟨p, us, e1, e2, l, pr⟩, h2⟩ hk q => by
  cases (show r = [] from h2)
  subst e1
  refine ⟨p, us, e, .inr (Same.seqT s e2), fun n hn => ?_⟩
  have g := Gw.new1 (sj.trans s) hn (.lst us)
  exact q _ _ _ _ hk g ⟨n, _, rfl, upd_same, l, prd_mono A g.i pr⟩
theorem ro_tupL {A : Rp α} : ROA (fun xs H Q => ∃ p ys, xs = [.ref p] ∧ ((SqL K H p ys ∧ ∀ l, H l = none → Q (.ref l) (upd H l (.tup ys))) ∨ (SqT K H p ys ∧ Q (.ref p) H))) (rsC (rL A) rs0) (rT K A) (fun b => D.pure ⟨b.1⟩) := fun J I H vs b Q P X sj s ⟨v, r, e, ⟨p, us, e1, e2, l, pr⟩, h2⟩ hk q => by
  cases (show r = [] from h2)
  subst e1
  refine ⟨p, us, e, .inl ⟨SqL.of (s _ _ e2), fun n hn => ?_⟩⟩
  have g := Gw.new1 (sj.trans s) hn (.tup us)
  exact q _ _ _ _ hk g ⟨n, _, rfl, SqT.of upd_same, l, prd_mono A g.i pr⟩
/-! ### data of any kind -/
mutual
theorem Dp.mn {H H' : Hp} (s : Same H H') : ∀ {v : V} {d : PyData}, Dp K H v d → Dp K H' v d
  | _, _, .non => .non
  | _, _, .bl b => .bl b
  | _, _, .int i => .int i
  | _, _, .str x => .str x
  | _, _, .lst h t => .lst (s.seq h) (DpAll.mn s t)
  | _, _, .tup h t => .tup (Same.seqT s h) (DpAll.mn s t)
theorem DpAll.mn {H H' : Hp} (s : Same H H') : ∀ {v : List V} {d : List PyData}, DpAll K H v d → DpAll K H' v d
  | _, _, .nil => .nil
  | _, _, .cons h t => .cons (Dp.mn s h) (DpAll.mn s t)
end
def rD (K : PySem.W.Frag) : Rp PyData := ⟨fun J _ v d => Dp K J v d ∧ d.canLay0 = true, fun s _ h => ⟨Dp.mn s h.1, h.2⟩⟩
class Dat (K : PySem.W.Frag) {α : Type} (R : Rp α) where
  enc : α → PyData
  dep : Nat
  dp : ∀ {J I : Hp} {v : V} {a : α}, Same I J → R.top J I v a → Dp K J v (enc a)
  lay : ∀ {J I : Hp} {v : V} {a : α}, R.top J I v a → (enc a).canLay0 = true
  dle : ∀ a, (enc a).depth ≤ dep
  inj : ∀ a b, PyData.eqv (enc a) (enc b) = true → a = b
  nz : ∀ a, PyData.eqv (enc a) .none = false ∧ PyData.eqv .none (enc a) = false
instance : Dat K rI := ⟨fun i => .int i, 0, fun {J I v a} _ h => by rw [show v = .int a from h]; exact .int a, fun _ => rfl, fun _ => Nat.le_refl _, fun a b h => by simpa [PyData.eqv] using h, fun a => ⟨rfl, rfl⟩⟩
instance : Dat K rB := ⟨fun i => .bool i, 0, fun {J I v a} _ h => by rw [show v = .bl a from h]; exact .bl a, fun _ => rfl, fun _ => Nat.le_refl _, fun a b h => by simpa [PyData.eqv] using h, fun a => ⟨rfl, rfl⟩⟩
instance : Dat K rS := ⟨fun i => .str i, 0, fun {J I v a} _ h => by rw [h.1]; exact .str a, fun h => My.ok_asc h.2.1, fun _ => Nat.le_refl _, fun a b h => by simpa [PyData.eqv] using h, fun a => ⟨rfl, rfl⟩⟩
/-- none or a thing -/
class DatO (K : PySem.W.Frag) {α : Type} (R : Rp α) where
  enc : α → PyData
  dep : Nat
  dp : ∀ {J I : Hp} {v : V} {a : α}, Same I J → R.top J I v a → Dp K J v (enc a)
  lay : ∀ {J I : Hp} {v : V} {a : α}, R.top J I v a → (enc a).canLay0 = true
  dle : ∀ a, (enc a).depth ≤ dep
  inj : ∀ a b, PyData.eqv (enc a) (enc b) = true → a = b
instance [d : Dat K (α := α) R] : DatO K R := ⟨d.enc, d.dep, d.dp, d.lay, d.dle, d.inj⟩
def encO (f : α → PyData) : Option α → PyData
  | none => .none
  | some a => f a
instance {R : Rp α} [d : Dat K R] : DatO K (rO R) := ⟨encO d.enc, d.dep, fun {J I v a} s h => by
    cases a with
    | none => rw [show v = .non from h]; exact .non
    | some a => exact d.dp s h.2, fun {J I v a} h => by
    cases a with
    | none => rfl
    | some a => exact d.lay h.2, fun a => by
    cases a with
    | none => exact Nat.zero_le _
    | some a => exact d.dle a, fun a b h => by
    cases a with
    | none =>
      cases b with
      | none => rfl
      | some b => rw [show PyData.eqv (encO d.enc none) (encO d.enc (some b)) = false from (d.nz b).2] at h; cases h
    | some a =>
      cases b with
      | none => rw [show PyData.eqv (encO d.enc (some a)) (encO d.enc none) = false from (d.nz a).1] at h; cases h
      | some b => rw [d.inj a b h]⟩
theorem dpAll_of {R : Rp α} (d : DatO K R) {I : Hp} : ∀ {vs : List V} {xs : List α}, Paired (R.rep I) vs xs → DpAll K I vs (xs.map d.enc)
  | _, _, .nil => .nil
  | _, _, .cons h t => .cons (d.dp (Same.refl _) h) (dpAll_of d t)
theorem layAll_of {R : Rp α} (d : DatO K R) {I : Hp} : ∀ {vs : List V} {xs : List α}, Paired (R.rep I) vs xs → PyData.canLayAll0 (xs.map d.enc) = true
  | _, _, .nil => rfl
  | _, _, .cons h t => by
    show (_ && _) = true
    rw [d.lay h, layAll_of d t]
    rfl
theorem depAll_of {n : Nat} (f : α → PyData) (h : ∀ a, (f a).depth ≤ n) : ∀ xs : List α, PyData.depthAll (xs.map f) ≤ n
  | [] => Nat.zero_le _
  | a :: r => Nat.max_le.mpr ⟨h a, depAll_of f h r⟩
theorem injAll_of (f : α → PyData) (h : ∀ a b, PyData.eqv (f a) (f b) = true → a = b) : ∀ xs ys : List α, PyData.eqvAll (xs.map f) (ys.map f) = true → xs = ys
  | [], [], _ => rfl
  | [], _ :: _, e => nomatch e
  | _ :: _, [], e => nomatch e
  | a :: r, b :: t, e => by
    have e' : (PyData.eqv (f a) (f b) && PyData.eqvAll (r.map f) (t.map f)) = true := e
    rw [Bool.and_eq_true] at e'
    rw [h a b e'.1, injAll_of f h r t e'.2]
instance {R : Rp α} [d : DatO K R] : Dat K (rL R) := ⟨fun xs => .list (xs.map d.enc), d.dep + 1, fun {J I v a} s ⟨p, vs, e, h, l, pr⟩ => by rw [e]; exact .lst (SqL.of h) (DpAll.mn s (dpAll_of d pr)), fun ⟨p, vs, e, h, l, pr⟩ => layAll_of d pr, fun a => Nat.succ_le_succ (depAll_of d.enc d.dle a), fun a b h => injAll_of d.enc d.inj a b h, fun a => ⟨rfl, rfl⟩⟩
instance {R : Rp α} [d : DatO K R] : Dat K (rT K R) := ⟨fun xs => .tuple (xs.l.map d.enc), d.dep + 1, fun {J I v a} s ⟨p, vs, e, h, l, pr⟩ => by rw [e]; exact .tup h (DpAll.mn s (dpAll_of d pr)), fun ⟨p, vs, e, h, l, pr⟩ => layAll_of d pr, fun a => Nat.succ_le_succ (depAll_of d.enc d.dle a.l), fun a b h => by rw [show a = ⟨a.l⟩ from rfl, injAll_of d.enc d.inj a.l b.l h], fun a => ⟨rfl, rfl⟩⟩
/-- rows of unlike things -/
class Dats (K : PySem.W.Frag) {β : Type} (S : Rps β) where
  enc : β → List PyData
  dep : Nat
  dp : ∀ {I : Hp} {v : List V} {a : β}, S.rep I v a → DpAll K I v (enc a)
  lay : ∀ {I : Hp} {v : List V} {a : β}, S.rep I v a → PyData.canLayAll0 (enc a) = true
  dle : ∀ a, PyData.depthAll (enc a) ≤ dep
  inj : ∀ a b, PyData.eqvAll (enc a) (enc b) = true → a = b
instance : Dats K rs0 := ⟨fun _ => [], 0, fun {I v a} h => by rw [show v = [] from h]; exact .nil, fun _ => rfl, fun _ => Nat.zero_le _, fun _ _ _ => rfl⟩
instance {R : Rp α} {S : Rps β} [d : DatO K R] [t : Dats K S] : Dats K (rsC R S) := ⟨fun p => d.enc p.1 :: t.enc p.2, max d.dep t.dep, fun ⟨v, r, e, h, k⟩ => by rw [e]; exact .cons (d.dp (Same.refl _) h) (t.dp k), fun {I vs a} ⟨v, r, e, h, k⟩ => by
    show (_ && _) = true
    rw [d.lay h, t.lay k]
    rfl, fun p => Nat.max_le.mpr ⟨Nat.le_trans (d.dle _) (Nat.le_max_left ..), Nat.le_trans (t.dle _) (Nat.le_max_right ..)⟩, fun a b h => by
    have e' : (PyData.eqv (d.enc a.1) (d.enc b.1) && PyData.eqvAll (t.enc a.2) (t.enc b.2)) = true := h
    rw [Bool.and_eq_true] at e'
    exact Prod.ext (d.inj _ _ e'.1) (t.inj _ _ e'.2)⟩
instance {S : Rps β} [t : Dats K S] : Dat K (rTu K S) := ⟨fun x => .tuple (t.enc x.r), t.dep + 1, fun {J I v a} s ⟨p, vs, e, h, k⟩ => by rw [e]; exact .tup h (DpAll.mn s (t.dp k)), fun ⟨p, vs, e, h, k⟩ => t.lay k, fun a => Nat.succ_le_succ (t.dle a.r), fun a b h => by rw [show a = ⟨a.r⟩ from rfl, t.inj a.r b.r h], fun a => ⟨rfl, rfl⟩⟩
theorem shaped_of {d : PyData} (h : d.canLay0 = true) (l : d.depth ≤ 60) : SeqAt.shaped d = true := by
  unfold SeqAt.shaped
  rw [h, Bool.true_and]
  exact decide_eq_true (by omega)
theorem eqv_dec {R : Rp α} [DecidableEq α] (d : DatO K R) {J I J' I' : Hp} {v u : V} {a b : α} (ha : R.top J I v a) (hb : R.top J' I' u b) : PyData.eqv (d.enc a) (d.enc b) = decide (a = b) := by
  by_cases h : a = b
  · subst h
    rw [decide_eq_true rfl]
    exact SeqAt.eqv_refl _ (d.lay ha)
  · rw [decide_eq_false h]
    cases e : PyData.eqv (d.enc a) (d.enc b) with
    | false => rfl
    | true => exact absurd (d.inj a b e) h
theorem ro_eqD {R : Rp α} [DecidableEq α] [d : DatO K R] (l : d.dep ≤ 60 := by exact Nat.le_of_ble_eq_true rfl) : RO2 (rEqD K) R R rB (fun a b => D.pure (decide (a = b))) := fun J I H v u a b Q P X sj s ha hb hk q =>
  ⟨d.enc a, d.enc b, Dp.mn s (d.dp sj ha), Dp.mn s (d.dp sj hb), shaped_of (d.lay ha) (Nat.le_trans (d.dle a) l), shaped_of (d.lay hb) (Nat.le_trans (d.dle b) l), q _ _ I H hk (Gw.refl (sj.trans s)) (congrArg V.bl (eqv_dec d ha hb))⟩
theorem ro_neD {R : Rp α} [DecidableEq α] [d : DatO K R] (l : d.dep ≤ 60 := by exact Nat.le_of_ble_eq_true rfl) : RO2 (rNeD K) R R rB (fun a b => D.pure (!decide (a = b))) := fun J I H v u a b Q P X sj s ha hb hk q =>
  ⟨d.enc a, d.enc b, Dp.mn s (d.dp sj ha), Dp.mn s (d.dp sj hb), shaped_of (d.lay ha) (Nat.le_trans (d.dle a) l), shaped_of (d.lay hb) (Nat.le_trans (d.dle b) l), q _ _ I H hk (Gw.refl (sj.trans s)) (by rw [eqv_dec d ha hb]; rfl)⟩
theorem ro_eqAny : RO2 (rEqD K) (rD K) (rD K) rB (fun a b => D.need (a.depth ≤ 60 ∧ b.depth ≤ 60) (D.pure (PyData.eqv a b))) := fun J I H v u a b Q P X sj s ha hb hk q =>
  ⟨a, b, Dp.mn s ha.1, Dp.mn s hb.1, shaped_of ha.2 hk.1.1, shaped_of hb.2 hk.1.2, q _ _ I H hk.2 (Gw.refl (sj.trans s)) rfl⟩
theorem ro_neAny : RO2 (rNeD K) (rD K) (rD K) rB (fun a b => D.need (a.depth ≤ 60 ∧ b.depth ≤ 60) (D.pure (!PyData.eqv a b))) := fun J I H v u a b Q P X sj s ha hb hk q =>
  ⟨a, b, Dp.mn s ha.1, Dp.mn s hb.1, shaped_of ha.2 hk.1.1, shaped_of hb.2 hk.1.2, q _ _ I H hk.2 (Gw.refl (sj.trans s)) rfl⟩
instance : DatO K rN := ⟨fun _ => .none, 0, fun {J I v a} _ h => by rw [show v = .non from h]; exact .non, fun _ => rfl, fun _ => Nat.le_refl _, fun _ _ _ => rfl⟩
/-- lists, tuples of data of any kind, as data -/
class ToD (K : PySem.W.Frag) {α : Type} (R : Rp α) where
  enc : α → PyData
  dp : ∀ {J I : Hp} {v : V} {a : α}, Same I J → R.top J I v a → Dp K J v (enc a)
  lay : ∀ {J I : Hp} {v : V} {a : α}, R.top J I v a → (enc a).canLay0 = true
instance (priority := low) {R : Rp α} [d : DatO K R] : ToD K R := ⟨d.enc, d.dp, d.lay⟩
instance : ToD K (rD K) := ⟨fun d => d, fun _ h => h.1, fun h => h.2⟩
theorem dpAll_D {I : Hp} : ∀ {vs : List V} {xs : List PyData}, Paired ((rD K).rep I) vs xs → DpAll K I vs xs ∧ PyData.canLayAll0 xs = true
  | _, _, .nil => ⟨.nil, rfl⟩
  | _, _, .cons h t => ⟨.cons h.1 (dpAll_D t).1, by show (_ && _) = true; rw [h.2, (dpAll_D t).2]; rfl⟩
instance : ToD K (rL (rD K)) := ⟨fun xs => .list xs, fun {J I v a} s ⟨p, vs, e, h, l, pr⟩ => by rw [e]; exact .lst (SqL.of h) (DpAll.mn s (dpAll_D pr).1), fun ⟨p, vs, e, h, l, pr⟩ => (dpAll_D pr).2⟩
/-- rows of unlike things, as data -/
class ToDs (K : PySem.W.Frag) {β : Type} (S : Rps β) where
  enc : β → List PyData
  dp : ∀ {I : Hp} {v : List V} {a : β}, S.rep I v a → DpAll K I v (enc a)
  lay : ∀ {I : Hp} {v : List V} {a : β}, S.rep I v a → PyData.canLayAll0 (enc a) = true
instance : ToDs K rs0 := ⟨fun _ => [], fun {I v a} h => by rw [show v = [] from h]; exact .nil, fun _ => rfl⟩
instance {R : Rp α} {S : Rps β} [d : ToD K R] [t : ToDs K S] : ToDs K (rsC R S) := ⟨fun p => d.enc p.1 :: t.enc p.2, fun ⟨v, r, e, h, k⟩ => by rw [e]; exact .cons (d.dp (Same.refl _) h) (t.dp k), fun {I vs a} ⟨v, r, e, h, k⟩ => by
    show (_ && _) = true
    rw [d.lay h, t.lay k]
    rfl⟩
instance (priority := high) {S : Rps β} [t : ToDs K S] : ToD K (rTu K S) := ⟨fun x => .tuple (t.enc x.r), fun {J I v a} s ⟨p, vs, e, h, k⟩ => by rw [e]; exact .tup h (DpAll.mn s (t.dp k)), fun ⟨p, vs, e, h, k⟩ => t.lay k⟩
theorem SE.toD {t : TE} {R : Rp α} {m : D α} [d : ToD Z.K R] (h : SE Z j Γ t R m) : SE Z j Γ t (rD Z.K) (D.bind m fun a => D.pure (d.enc a)) := fun φ σ w H Q P X hn hA hm k x =>
  h φ σ w H Q _ X hn hA hm (fun a v I' H' pb s r => k _ v I' H' pb s ⟨d.dp (i_tp (w := w.to I') j (hA.step s).go) r, d.lay r⟩) x
def isBl (d : PyData) (b : Bool) : Bool := match d with
  | .bool c => c == b
  | _ => false
theorem isBl_of {H : Hp} {v : V} {d : PyData} (b : Bool) (h : Dp K H v d) : decide (v = .bl b) = isBl d b := by
  cases h <;> simp [isBl]
  rename_i c
  cases c <;> cases b <;> rfl
theorem ro_isA : RO2 My.rIsA (rD K) rB rB (fun d b => D.pure (isBl d b)) := fun J I H v u a b Q P X sj s ha hb hk q => ⟨b, hb, q _ _ I H hk (Gw.refl (sj.trans s)) (congrArg V.bl (isBl_of b ha.1))⟩
theorem ro_notA : RO2 My.rNotA (rD K) rB rB (fun d b => D.pure (!isBl d b)) := fun J I H v u a b Q P X sj s ha hb hk q => ⟨b, hb, q _ _ I H hk (Gw.refl (sj.trans s)) (by rw [isBl_of b ha.1]; rfl)⟩
/-! ### x in xs, by data -/
theorem any_mem {R : Rp α} [DecidableEq α] (d : DatO K R) {J I J' : Hp} {v : V} {a : α} (ha : R.top J I v a) : ∀ {vs : List V} {xs : List α}, Paired (R.rep J') vs xs → ((xs.map d.enc).any fun z => PyData.eqv z (d.enc a)) = decide (a ∈ xs)
  | _, _, .nil => by simp
  | _, x :: xs, .cons h t => by
    rw [List.map_cons, List.any_cons, any_mem d ha t, eqv_dec d h ha]
    by_cases e : x = a
    · rw [decide_eq_true e, Bool.true_or]
      exact (decide_eq_true (by rw [e]; exact List.mem_cons_self ..)).symm
    · rw [decide_eq_false e, Bool.false_or]
      exact decide_eq_decide.mpr ⟨fun h => List.mem_cons_of_mem _ h, fun h => (List.mem_cons.mp h).resolve_left fun z => e z.symm⟩
theorem ro_inD {R : Rp α} [DecidableEq α] [d : DatO K R] (l : d.dep ≤ 59 := by exact Nat.le_of_ble_eq_true rfl) : RO2 (rInD K) R (rL R) rB (fun a xs => D.pure (decide (a ∈ xs))) := fun J I H v u a b Q P X sj s ha hb hk q => by
  obtain ⟨p, vs, rfl, e, le, pr⟩ := hb
  refine ⟨d.enc a, b.map d.enc, Dp.mn s (d.dp sj ha), .lst (SqL.of (s _ _ e)) (DpAll.mn (sj.trans s) (dpAll_of d pr)), shaped_of (d.lay ha) (Nat.le_trans (d.dle a) (by omega)), shaped_of (layAll_of d pr) (Nat.succ_le_succ (Nat.le_trans (depAll_of d.enc d.dle b) l)), ?_⟩
  rw [any_mem d ha pr]
  exact q _ _ I H hk (Gw.refl (sj.trans s)) rfl
theorem ro_notInD {R : Rp α} [DecidableEq α] [d : DatO K R] (l : d.dep ≤ 59 := by exact Nat.le_of_ble_eq_true rfl) : RO2 (rNotInD K) R (rL R) rB (fun a xs => D.pure (!decide (a ∈ xs))) := fun J I H v u a b Q P X sj s ha hb hk q => by
  obtain ⟨p, vs, rfl, e, le, pr⟩ := hb
  refine ⟨d.enc a, b.map d.enc, Dp.mn s (d.dp sj ha), .lst (SqL.of (s _ _ e)) (DpAll.mn (sj.trans s) (dpAll_of d pr)), shaped_of (d.lay ha) (Nat.le_trans (d.dle a) (by omega)), shaped_of (layAll_of d pr) (Nat.succ_le_succ (Nat.le_trans (depAll_of d.enc d.dle b) l)), ?_⟩
  rw [any_mem d ha pr]
  exact q _ _ I H hk (Gw.refl (sj.trans s)) rfl
/-! ### isinstance(x, T) of data -/
def tyN : PyData → String
  | .none => "NoneType"
  | .bool _ => "bool"
  | .int _ => "int"
  | .str _ => "str"
  | .list _ => "list"
  | .tuple _ => "tuple"
  | .dict _ => "dict"
theorem tyx_dp {H : Hp} {v : V} {d : PyData} (h : Dp K H v d) : TyX K H v (.type (tyN d)) := by
  cases h with
  | non => exact .base .non
  | bl b => exact .base (.bl b)
  | int i => exact .base (.int i)
  | str x => exact .base (.str x)
  | lst h t =>
    rcases h with (h | ⟨o, h⟩) | ⟨o, its, n, h1, h2, _⟩
    · exact .base (.lst h)
    · exact .base (.frz h)
    · exact .kList h1 h2
  | tup h t =>
    rcases h with (h | ⟨o, h⟩) | ⟨o, its, n, h1, h2, _⟩
    · exact .base (.tup h)
    · exact .fTuple h
    · exact .kTuple h1 h2
theorem se_isiD {n : String} {ta : TE} {ma : D PyData} (ha : SE Z true Γ ta (rD Z.K) ma) : SE Z j Γ (tCB (rIsi Z.K) (tCons ta (tCons (tC (.ty n)) tNil))) rB (D.bind ma fun d => fun P _ => ∃ b, kitB (tyN d) n = some b ∧ P b) := fun φ σ w H Q P X hn hA hm kk x =>
  ha φ σ w H _ _ X hn hA hm (fun d v I1 H1 pd s1 rd => by
    obtain ⟨b, hb, pb⟩ := pd
    exact ⟨v, .ty n, _, _, b, rfl, .ty n, tyx_dp (Dp.mn (tp_sub (j := true) s1.sub) rd.1), kit_ty hb, kk b (.bl b) I1 H1 pb s1 rfl⟩) x
theorem se_isi {n m : String} {b : Bool} {ta : TE} {A : Rp α} {ma : D α} (ty : ∀ J I v a, A.top J I v a → ∀ H, Same J H → TyX Z.K H v (.type m)) (hb : kitB m n = some b) (ha : SE Z true Γ ta A ma) : SE Z j Γ (tCB (rIsi Z.K) (tCons ta (tCons (tC (.ty n)) tNil))) rB (D.bind ma fun _ => D.pure b) := fun φ σ w H Q P X hn hA hm kk x =>
  ha φ σ w H _ _ X hn hA hm (fun d v I1 H1 pd s1 rd => ⟨v, .ty n, _, _, b, rfl, .ty n, ty _ _ _ _ rd _ (tp_sub (j := true) s1.sub), kit_ty hb, kk b (.bl b) I1 H1 pd s1 rfl⟩) x
theorem tyx_I : ∀ (J I : Hp) v a, rI.top J I v a → ∀ H, Same J H → TyX K H v (.type "int") := fun _ _ v a h _ _ => by rw [show v = .int a from h]; exact .base (.int a)
theorem tyx_B : ∀ (J I : Hp) v a, rB.top J I v a → ∀ H, Same J H → TyX K H v (.type "bool") := fun _ _ v a h _ _ => by rw [show v = .bl a from h]; exact .base (.bl a)
theorem tyx_S : ∀ (J I : Hp) v a, rS.top J I v a → ∀ H, Same J H → TyX K H v (.type "str") := fun _ _ v a h _ _ => by rw [h.1]; exact .base (.str a)
theorem tyx_L {A : Rp α} : ∀ (J I : Hp) v a, (rL A).top J I v a → ∀ H, Same J H → TyX K H v (.type "list") := fun _ _ v a ⟨p, vs, e, h, _⟩ _ s => by rw [e]; exact .base (.lst (s _ _ h))
/-! ### truth -/
theorem st_truthL {ta : TE} {A : Rp α} {m : D (List α)} (h : SE Z true Γ ta (rL A) m) : ST Z Γ (fun σ H Q => ta σ H fun x H' => ∃ k, TruV Z.K x H' k ∧ Q k H') (D.bind m fun xs => D.pure (!xs.isEmpty)) := fun φ σ w H Q P X hn hA hm k x =>
  h φ σ w H _ _ X hn hA hm (fun a v I' H' pa s ⟨p, vs, e, h1, l, pr⟩ => ⟨!vs.isEmpty, by rw [e]; exact .inl ⟨vs, SqL.of (tp_sub (j := true) s.sub _ _ h1), rfl⟩, k _ I' H' (by
    have : vs.isEmpty = a.isEmpty := by cases pr <;> rfl
    rw [this]
    exact pa) s⟩) x
theorem st_truthB {ta : TE} {m : D Bool} (h : SE Z true Γ ta rB m) : ST Z Γ (fun σ H Q => ta σ H fun x H' => ∃ k, TruV Z.K x H' k ∧ Q k H') m := fun φ σ w H Q P X hn hA hm k x =>
  h φ σ w H _ _ X hn hA hm (fun a v I' H' pa s h1 => ⟨a, by rw [show v = .bl a from h1]; exact rfl, k _ I' H' pa s⟩) x
/-! ### f'..' -/
inductive SJ (Z : Px) (Γ : List Cell) : List TE → (Str → D Str) → Prop where
  | nil : SJ Z Γ [] (fun acc => D.pure acc)
  | cons {t : TE} {ts : List TE} {m : D Str} {m2 : Str → D Str} (h : SE Z true Γ t rS m) (r : SJ Z Γ ts m2) : SJ Z Γ (t :: ts) (fun acc => D.bind m fun a => D.need ((acc ++ a).length ≤ sizeLine) (m2 (acc ++ a)))
theorem sj_fi {te : TE} {m : D Int} (h : SE Z true Γ te rI m) : SE Z j Γ (tFmt te) rS (D.bind m fun i => D.need (i.natAbs.log2 < 1920 ∧ Asc (toString i) ∧ (toString i : Str).length ≤ sizeLine) (D.pure (toString i))) := fun φ σ w H Q P X hn hA hm k x =>
  h φ σ w H _ _ X hn hA hm (fun a v I' H' pa s h1 => .inr ⟨a, h1, pa.1.1, k _ _ I' H' pa.2 s ⟨rfl, pa.1.2⟩⟩) x
theorem sj_fs {te : TE} {m : D Str} (h : SE Z true Γ te rS m) : SE Z j Γ (tFmt te) rS m := fun φ σ w H Q P X hn hA hm k x =>
  h φ σ w H _ _ X hn hA hm (fun a v I' H' pa s h1 => .inl ⟨a, h1.1, h1.2.2, k _ _ I' H' pa s ⟨rfl, h1.2⟩⟩) x
theorem sj_run {ts : List TE} {m : Str → D Str} (h : SJ Z Γ ts m) : ∀ (φ : Fr) (σ : L2.St) (w : Wd) (H : Hp) (acc : Str) (Q : Str → Hp → Prop) (P : Str → Prop) (X : Ex → Prop), φ.n = Z.n → At φ Γ σ w H → Asc acc → acc.length ≤ sizeLine → m acc P X →
    (∀ z I' H', P z → Go w H I' H' → Asc z → z.length ≤ sizeLine → Q z H') → (∀ e c d I' H', X e → Go w H I' H' → e.rep Z.K Z.mg I' c d → Z.E σ c d H') → tJs ts acc σ H Q := by
  induction h with
  | nil => exact fun φ σ w H acc Q P X hn hA ha hl hm k x => k acc w.I H hm hA.rf ha hl
  | cons h r ih =>
    intro φ σ w H acc Q P X hn hA ha hl hm k x
    exact h φ σ w H _ _ X hn hA hm (fun a v I1 H1 pa s1 ra => ⟨a, ra.1, pa.1, ih φ σ (w.to I1) H1 (acc ++ a) Q P X hn (hA.step s1) (My.asc_app ha ra.2.1) pa.1 pa.2 (fun z I' H' px g as l => k z I' H' px (s1.trans g) as l) (xg s1 x)⟩) x
theorem se_joined {ts : List TE} {m : Str → D Str} (h : SJ Z Γ ts m) : SE Z j Γ (fun σ H Q => tJs ts Str.empty σ H fun out H1 => Q (.str out) H1) rS (m Str.empty) := fun φ σ w H Q P X hn hA hm k x =>
  sj_run h φ σ w H Str.empty _ P X hn hA (fun c hc => nomatch hc) (Nat.zero_le _) hm (fun z I' H' pz g as l => k z _ I' H' pz g ⟨rfl, as, l⟩) x
end
end Lx
namespace Lx
open PySem PySem.Spec PyProof.Rows L2 TL
open My (Asc)
theorem log_lt {i : Int} (h0 : 0 ≤ i) (h1 : i < 10 ^ 101) : i.natAbs.log2 < 1920 := by
  by_cases hz : i.natAbs = 0
  · rw [hz]
    decide
  · rw [Nat.log2_lt hz]
    have h : i.natAbs < 10 ^ 101 := by omega
    exact Nat.lt_trans h (by decide +kernel)
theorem dig_lt (n : Nat) : ∀ c ∈ numL n, c < 128 := fun c hc => by
  have := numL_digits n c hc
  omega
theorem asc_num {i : Int} (h0 : 0 ≤ i) : Asc (Str.ofString (toString i)) := by
  obtain ⟨n, rfl⟩ : ∃ n : Nat, i = n := ⟨i.toNat, by omega⟩
  intro c hc
  have hc' : c ∈ tl (Str.ofString (toString (n : Int))) := hc
  rw [tl_num] at hc'
  exact dig_lt n c hc'
theorem len_num {i : Int} {k : Nat} (hk : 0 < k) (h0 : 0 ≤ i) (h1 : i < 10 ^ k) : (Str.ofString (toString i)).length ≤ k := by
  obtain ⟨n, rfl⟩ : ∃ n : Nat, i = n := ⟨i.toNat, by omega⟩
  have e : (tl (Str.ofString (toString (n : Int)))).length = (Str.ofString (toString (n : Int))).length := My.len_tl _
  rw [tl_num] at e
  have hn : n < 10 ^ k := by
    have : ((n : Nat) : Int) < ((10 ^ k : Nat) : Int) := by rw [Int.natCast_pow]; exact h1
    exact Int.ofNat_lt.mp this
  have := numL_len hk hn
  omega
/-- str(i) of a small number -/
theorem strI_ok {i : Int} {k : Nat} (h0 : 0 ≤ i) (h1 : i < 10 ^ k) (hk : 0 < k ∧ k ≤ 101) : i.natAbs.log2 < 1920 ∧ Asc (Str.ofString (toString i)) ∧ (Str.ofString (toString i)).length ≤ sizeLine := by
  refine ⟨log_lt h0 (Int.lt_of_lt_of_le h1 ?_), asc_num h0, Nat.le_trans (len_num hk.1 h0 h1) (Nat.le_trans hk.2 (by decide))⟩
  have : (10 ^ k : Nat) ≤ 10 ^ 101 := Nat.pow_le_pow_right (by decide) hk.2
  have h : ((10 ^ k : Nat) : Int) ≤ ((10 ^ 101 : Nat) : Int) := Int.ofNat_le.mpr this
  rw [Int.natCast_pow, Int.natCast_pow] at h
  exact h
/-- a sign of a text, drawn -/
theorem at_draw {α : Type} {xs : List α} {r : Int} {Q : α → Prop} (h : 0 ≤ r ∧ r < xs.length) (q : ∀ c, c ∈ xs → Q c) : ∃ c, atI xs r = some c ∧ Q c := by
  obtain ⟨c, hc, e⟩ := My.atI_in h.1 h.2
  exact ⟨c, e, q c hc⟩
theorem ones_sum {α : Type} : ∀ {xs : List α} {ys : List Str}, Paired (fun _ (y : Str) => y.length ≤ 1) xs ys → (ys.map (·.length)).sum ≤ xs.length ∧ ys.length = xs.length
  | _, _, .nil => ⟨Nat.le_refl _, rfl⟩
  | _, _, .cons h t => by
    obtain ⟨a, b⟩ := ones_sum t
    simp only [List.map_cons, List.sum_cons, List.length_cons]
    omega
theorem each_sum {α : Type} {n : Nat} : ∀ {xs : List α} {ys : List Str}, Paired (fun _ (y : Str) => y.length ≤ n) xs ys → (ys.map (·.length)).sum ≤ xs.length * n ∧ ys.length = xs.length
  | _, _, .nil => ⟨Nat.zero_le _, rfl⟩
  | _, _, .cons h t => by
    obtain ⟨a, b⟩ := each_sum t
    simp only [List.map_cons, List.sum_cons, List.length_cons, Nat.add_mul]
    omega
theorem join_le {a : Str} {ys : List Str} {n : Nat} (h : (ys.map (·.length)).sum + ys.length * a.length ≤ n) : (Txt.join a ys).length ≤ n := Nat.le_trans (My.join_len a ys) h
theorem sz {n : Nat} (h : n ≤ 1000000) : n ≤ sizeLine := Nat.le_trans h (by decide)
theorem app_le {a b : Str} {n m : Nat} (ha : a.length ≤ n) (hb : b.length ≤ m) : (a ++ b).length ≤ n + m := by rw [My.len_app]; omega
theorem mul_le {a : Str} {n : Int} {m : Nat} (h : a.length * n.toNat ≤ m) : (Txt.mul a n).length ≤ m := Nat.le_trans (mul_len a n) h
theorem cut_le {z : Str} {lo hi : Option Int} {n : Nat} (h : z.length ≤ n) : (cutS z lo hi).length ≤ n := Nat.le_trans (My.cutS_len _ _ _) h
theorem at_str {xs : List Str} {r : Int} {Q : Str → Prop} {n : Nat} (h : 0 ≤ r ∧ r < xs.length) (hx : ∀ z ∈ xs, z.length ≤ n) (q : ∀ z, z.length ≤ n → Q z) : ∃ c, atI xs r = some c ∧ Q c := at_draw h fun c hc => q c (hx c hc)
/-- a text of n drawn signs -/
theorem compD_signs {me : Int → D Str} {X : Ex → Prop} {n : Nat} {lo : Int} {P : List Str → Prop} (h : ∀ x Q, (∀ y : Str, y.length ≤ 1 → Q y) → me x Q X) (k : ∀ ys : List Str, (ys.map (·.length)).sum ≤ n → ys.length = n → P ys) : compD (fun _ => D.pure true) me (rngL lo n) P X :=
  compD_any (fun _ (y : Str) => y.length ≤ 1) P X (rngL lo n) (fun x _ Q q => h x Q q) fun ys pr => by
    obtain ⟨a, b⟩ := ones_sum pr
    rw [rngL_len] at a b
    exact k ys a b
theorem compD_each {me : Int → D Str} {X : Ex → Prop} {n m : Nat} {lo : Int} {P : List Str → Prop} (h : ∀ x Q, (∀ y : Str, y.length ≤ m → Q y) → me x Q X) (k : ∀ ys : List Str, (ys.map (·.length)).sum ≤ n * m → ys.length = n → P ys) : compD (fun _ => D.pure true) me (rngL lo n) P X :=
  compD_any (fun _ (y : Str) => y.length ≤ m) P X (rngL lo n) (fun x _ Q q => h x Q q) fun ys pr => by
    obtain ⟨a, b⟩ := each_sum pr
    rw [rngL_len] at a b
    exact k ys a b
end Lx
namespace Lx
open PySem PySem.Spec PyProof.Rows
open PySem.W PySem.Calls
section
variable {prog : Program} {w : World} {A : Around} {E : Value → Shared → Prop} {s : Shared} {K : Frag} {x D : Addr} {ob : Obj} {dd : Option Obj}
/-- an error with or without a dict of its own, for isinstance (the library's kitx_exc) -/
theorem kit_err (c : L2.ExcC K D) : KitX K (.ref x) (.ref D) (fun h => InstAt h x ob D dd) := kitx_exc (by obtain ⟨cd, hc, _⟩ := any_some c.hd; rw [hc]; rfl) c.hg c.hk c.hs c.ha c.hn c.ht c.hm
end
end Lx
namespace Lx
open PySem PySem.Spec PyProof.Rows L2
section
variable {X : Cx} {a D : Addr} {oe : Obj} {pn : List (Addr × Obj)} {cls : Value} {d : Option Addr}
/-- the caught error as its class's instance, with its dict -/
theorem err_inst {pins : List (Addr × Obj)} {σ : L2.St} {H : Hp} {s : Shared} {dx : Addr} {fs : List (Str × V)} (I : Inv (X.suite a ((a, oe) :: pn)) pins σ H s) (hz : Zc (.ref D) (some dx) oe) (hf : ∃ vs, oe.data = .fields vs) (hd : H dx = some (.xd fs)) : ∃ od, PySem.W.InstAt s.heap a oe D (some od) := by
  obtain ⟨ha, _⟩ := I.pin (a, oe) (List.mem_append_left _ List.mem_cons_self)
  obtain ⟨vs, hv⟩ := hf
  have ox : ObjOk X.prog X.w H s.heap dx (.xd fs) := I.hok dx _ hd
  obtain ⟨mA, hns, hr⟩ := ox
  obtain ⟨od, ho, hl⟩ := lookIn_ns hns
  exact ⟨od, ha, hz.1, by unfold PySem.W.notCls; rw [hv] <;> rfl, by rw [hz.2]; exact ho⟩
/-- isinstance(e, c), e the error that the suite holds, of the class at D, its dict told -/
def rIsX (K : PySem.W.Frag) (cls : Value) (d : Option Addr) (a : Addr) : List V → Hp → VK → Prop := fun xs H Q => ∃ (D dx : Addr) (fs : List (Str × V)) (c : V) (u : Value) (b : Bool), cls = .ref D ∧ d = some dx ∧ ExcC K D ∧ H dx = some (.xd fs) ∧ xs = [.ref a, c] ∧ ClsV c u ∧ PySem.W.kitOne K (.ref D) u = some b ∧ Q (.bl b) H
theorem call_isX (hz : Zc cls d oe) (hf : ∃ vs, oe.data = .fields vs) : CallR (X.suite a ((a, oe) :: pn)) (.builtin "isinstance") (rIsX X.K cls d a) := by
  intro pins s σ H xs us Q I r h
  obtain ⟨D, dx, fs, c, u, b, rfl, rfl, C, hd, rfl, hc, e, q⟩ := h
  obtain ⟨u1, u2, rfl, r1, r2⟩ := vals2 r
  cases (show u1 = Value.ref a from r1)
  obtain ⟨od, J⟩ := err_inst I hz hf hd
  have e2 : u2 = u := by
    cases hc with
    | ty n => exact r2
    | own C => exact r2
  subst e2
  exact PySem.W.kia_one (kit_err C) I.kIn J e (fun z => nomatch z) fun tk => ⟨.bl b, H, I.tok tk, rfl, q⟩
/-- isinstance(e, (c, ..)) -/
def rIsXT (K : PySem.W.Frag) (cls : Value) (d : Option Addr) (a : Addr) : List V → Hp → VK → Prop := fun xs H Q => ∃ (D dx : Addr) (fs : List (Str × V)) (tp : Addr) (cs : List V) (ws : List Value) (b : Bool), cls = .ref D ∧ d = some dx ∧ ExcC K D ∧ H dx = some (.xd fs) ∧ xs = [.ref a, .ref tp] ∧ H tp = some (.tup cs) ∧ Paired ClsV cs ws ∧ PySem.W.kitAny K (.ref D) ws = some b ∧ Q (.bl b) H
theorem call_isXT (hz : Zc cls d oe) (hf : ∃ vs, oe.data = .fields vs) : CallR (X.suite a ((a, oe) :: pn)) (.builtin "isinstance") (rIsXT X.K cls d a) := by
  intro pins s σ H xs us Q I r h
  obtain ⟨D, dx, fs, tp, cs, ws, b, rfl, rfl, C, hd, rfl, hT, k, e, q⟩ := h
  obtain ⟨u1, u2, rfl, r1, r2⟩ := vals2 r
  cases (show u1 = Value.ref a from r1)
  cases (show u2 = Value.ref tp from r2)
  obtain ⟨od, J⟩ := err_inst I hz hf hd
  obtain ⟨_, its, rv, o, h1, h2, n, h3⟩ := (show ObjOk X.prog X.w H s.heap tp (.tup cs) from I.hok tp _ hT)
  have e3 := ClsV.all k rv
  subst e3
  obtain ⟨oc, od', dt, sl⟩ := o
  simp only at h2 h3
  subst h2 h3
  exact PySem.W.kia_tup (kit_err C) I.kIn J h1 e (fun z => nomatch z) fun tk => ⟨.bl b, H, I.tok tk, rfl, q⟩
end
end Lx
namespace Lx
open PySem PySem.Spec PyProof.Rows L2 TL
section
variable {Z : Px} {j : Bool} {Γ : List Cell} {α β γ δ : Type} {K : PySem.W.Frag}
/-- the promise of an error's __init__ that stores its one argument -/
def spEI (f : Str) (C : Addr) : Sp := fun vs H Q _ => ∃ (a : Addr) (y : V), vs = [.ref a, y] ∧ H a = some (exo a C none) ∧ ∀ dx, H dx = none → dx ≠ a → Q .non (upd (upd H dx (exd dx [(f, y)])) a (exo a C (some dx)))
theorem made_heap {H : Hp} {a d : Addr} {o o2 o3 o4 : HO} (ha : H a = none) (hda : d ≠ a) : upd (del (upd (upd (upd H a o) d o2) a o3) a) d o4 = upd H d o4 := by
  funext b
  by_cases h1 : b = d
  · subst h1
    rw [upd_same, upd_same]
  · rw [upd_ne h1, upd_ne h1]
    by_cases h2 : b = a
    · subst h2
      rw [del_same, ha]
    · rw [del_ne h2, upd_ne h2, upd_ne h1, upd_ne h2]
section
variable {S L : Type} {R : Rf γ} {Γn : S → List Cell} {Γl : L → List Cell}
/-- raise C(e) -/
theorem sb_raise {C : Addr} {cn f : Str} {te : TE} {A : Rp α} {me : D α} [d : ToD Z.K A] (hm : Z.mg cn = some (.ref C)) (he : SE Z false Γ te A me) : SB Z Γ (fun _ σ H => tMkO C (spEI f C) [] (tCons te tNil) σ H fun cls d H' => Z.E σ cls d H') R Γn Γl (fun _ _ _ _ X => me (fun a => X ⟨cn, [(f, d.enc a)]⟩) X) := fun φ σ w H Dn rt nx bk ct X hn hA hm' k1 k2 k3 k4 k5 =>
  he φ σ w H _ _ X hn hA hm' (fun a v I' H' pa s r => by
    refine ⟨by show 1 ≤ 1000; decide, fun e he' => ⟨e, v, rfl, upd_same, fun dx hdx ndx => ⟨rfl, dx, [(f, v)], upd_same, ?_, ?_, ?_⟩⟩⟩
    · rw [upd_ne ndx, upd_same]
    · rw [upd_ne ndx] at hdx
      exact hdx
    · rw [upd_ne ndx] at hdx
      rw [made_heap he' ndx]
      have g := go_new1 (w := w.to I') s.sub hdx (.xd [(f, v)])
      refine k5 _ _ _ (w.to (upd I' dx (.xd [(f, v)]))) _ pa ((hA.go.go s).go g) ⟨hm, dx, _, rfl, upd_same, .cons ⟨rfl, ?_⟩ .nil⟩ σ
      exact Dp.mn g.i (d.dp (Same.refl _) r))
    (kx hA.go k5)
end
/-- a body read: a def that may raise -/
theorem fnX {mg : Str → Option Value} {N : List Str} {t : TS} {S0 : Rps β} {R : Rp γ} {cs : β → List Cell} {m0 : β → D γ} {m : β → M γ Unit Unit} {E : XK} (pr : Prm S0 0 cs) (pl : ∀ J I vs b, S0.top J I vs b → vs.length ≤ N.length) {Γn : β → Unit → List Cell} {Γl : β → Unit → List Cell}
    (hb : ∀ b, SB ⟨K, mg, fun _ => E, N.length⟩ (cs b) t (Rf.of R) (Γn b) (Γl b) (m b))
    (hm : ∀ b P X, m0 b P X → m b P (fun _ => False) (fun _ => False) (fun _ => False) X) {vs : List V} {H : Hp} {Q : VK} {q : L2.St → Hp → Prop} (h : spF K mg S0 R m0 vs H Q E) : t { nx := q, rt := Q } (L2.start N vs) H := by
  obtain ⟨I, b, P, X, s, rp, km, kq, kx⟩ := h
  have l := pl _ _ _ _ rp
  refine hb b ⟨N.length, ⟨I, fun _ => none, fun _ => none⟩, H⟩ (L2.start N vs) ⟨I, fun _ => none, fun _ => none⟩ H _ P _ _ _ X rfl ⟨⟨Same.refl _, fun _ _ => rfl, fun _ _ => rfl, fun _ _ => rfl, fun _ _ _ h => h, s, (fun _ _ h => nomatch h), (fun _ _ h => nomatch h), fun _ _ ns _ h => ⟨ns, h, rfl⟩, fun _ h => h⟩, start_len l, hold_of (pr I I vs b _ _ H rp (Same.refl _) (Same.refl _) fun k v e => by rw [Nat.zero_add]; exact start_at e l)⟩ (hm b P X km) (fun c v w' H' pc g r => kq c v w'.I H' pc ⟨g.i, g.sub, fun b o h => g.keep b o rfl h, g.inew⟩ r) (fun _ _ _ _ z => z.elim) (fun _ _ _ _ z => z.elim) (fun _ _ _ _ z => z.elim) (fun e c d w' H' xe g r _ => kx e c d w'.I H' xe ⟨g.i, g.sub, fun b o h => g.keep b o rfl h, g.inew⟩ r)
end
end Lx
namespace Lx
open PySem PySem.Spec PyProof.Rows L2 TL
open My (Asc)
section
variable {Z : Px} {j : Bool} {Γ : List Cell} {α β γ δ : Type} {K : PySem.W.Frag}
/-! ### lists of things that may be none, where none is -/
theorem prd_some {R : Rp α} {I : Hp} : ∀ {vs : List V} {ys : List α}, Paired ((rO R).rep I) vs (ys.map some) → Paired (R.rep I) vs ys
  | _, [], .nil => .nil
  | _, _ :: _, .cons h t => .cons h.2 (prd_some t)
theorem SE.getAll {t : TE} {R : Rp α} {m : D (List (Option α))} (h : SE Z j Γ t (rL (rO R)) m) : SE Z j Γ t (rL R) (D.bind m fun xs => fun P _ => ∃ ys : List α, xs = ys.map some ∧ P ys) := SE.cast (fun J I v xs P X r hp => by
  obtain ⟨ys, rfl, py⟩ := hp
  obtain ⟨p, vs, e, h1, l, pr⟩ := r
  exact ⟨ys, py, p, vs, e, h1, by rw [List.length_map] at l; exact l, prd_some pr⟩) h
/-! ### lists as lists of data -/
theorem prd_any {R : Rp α} (d : ToD K R) {I : Hp} : ∀ {vs : List V} {xs : List α}, Paired (R.rep I) vs xs → Paired ((rD K).rep I) vs (xs.map d.enc)
  | _, _, .nil => .nil
  | _, _, .cons h t => .cons ⟨d.dp (Same.refl _) h, d.lay h⟩ (prd_any d t)
theorem SE.anyL {t : TE} {R : Rp α} {m : D (List α)} [d : ToD Z.K R] (h : SE Z j Γ t (rL R) m) : SE Z j Γ t (rL (rD Z.K)) (D.bind m fun xs => D.pure (xs.map d.enc)) := SE.map (R := rL R) (R' := rL (rD Z.K)) (fun J I v xs r => by
  obtain ⟨p, vs, e, h1, l, pr⟩ := r
  exact ⟨p, vs, e, h1, by rw [List.length_map]; exact l, prd_any d pr⟩) h
/-! ### xs.index(x) -/
theorem idxDK {X : Cx} (K : PySem.W.Frag) (h : X.K = K) (hu : X.A.units + 65 < cLine) : MtR X "list.index" (rIndexD K) := h ▸ mt_indexD hu
theorem ro_indexD {R : Rp α} [DecidableEq α] [d : DatO K R] (l : d.dep ≤ 59 := by exact Nat.le_of_ble_eq_true rfl) : ROM (rIndexD K) (rL R) (rsC R rs0) rI (fun xs b => D.need (b.1 ∈ xs) (D.pure (xs.idxOf b.1 : Int))) := fun J I H v us xs b Q P X sj s ⟨p, vs, e, h1, le, pr⟩ ⟨u, r, e2, h2, h3⟩ hk q => by
  cases (show r = [] from h3)
  subst e
  have hi := List.idxOf_lt_length_iff.mpr hk.1
  have hat : xs[xs.idxOf b.1]? = some b.1 := by rw [List.getElem?_eq_getElem hi, List.getElem_idxOf hi]
  refine ⟨p, u, d.enc b.1, xs.map d.enc, xs.idxOf b.1, d.enc b.1, rfl, e2, .lst (SqL.of (s _ _ h1)) (DpAll.mn (sj.trans s) (dpAll_of d pr)), Dp.mn s (d.dp sj h2), shaped_of (layAll_of d pr) (Nat.succ_le_succ (Nat.le_trans (depAll_of d.enc d.dle xs) l)), shaped_of (d.lay h2) (Nat.le_trans (d.dle b.1) (by omega)), by rw [List.getElem?_map, hat]; rfl, SeqAt.eqv_refl _ (d.lay h2), fun m z' hm hz => ?_, q _ _ I H hk.2 (Gw.refl (sj.trans s)) rfl⟩
  rw [List.getElem?_map] at hz
  cases ha : xs[m]? with
  | none =>
    rw [ha] at hz
    cases hz
  | some a =>
    rw [ha] at hz
    cases hz
    cases hq : PyData.eqv (d.enc a) (d.enc b.1) with
    | false => rfl
    | true =>
      have := d.inj _ _ hq
      subst this
      have hml : m < xs.length := (List.getElem?_eq_some_iff.mp ha).1
      have hne := List.not_of_lt_findIdx (p := fun y => y == b.1) (xs := xs) (i := m) hm
      rw [List.getElem?_eq_getElem hml] at ha
      have e3 := Option.some.inj ha
      simp only [e3, beq_self_eq_true] at hne
      cases hne
/-! ### objects that do not change -/
def FldR (K : PySem.W.Frag) (A : Rp α) (f : Str) (B : Rp β) (g : α → β) : Prop := ∀ (J I H : Hp) (v : V) (a : α), Same I J → Same J H → A.top J I v a → ∃ p C dx fs u, v = .ref p ∧ H p = some (.ins C dx fs) ∧ Cls K C ∧ NoAttr K C f ∧ fs.lookup f = some u ∧ B.rep I u (g a)
theorem se_fld {A : Rp α} {B : Rp β} {f : Str} {g : α → β} {ta : TE} {ma : D α} (hf : FldR Z.K A f B g) (ha : SE Z true Γ ta A ma) : SE Z j Γ (tFld Z.K ta f) B (D.bind ma fun a => D.pure (g a)) := fun φ σ w H Q P X hn hA hm kk x =>
  ha φ σ w H _ _ X hn hA hm (fun a v I1 H1 pa s1 ra => by
    obtain ⟨p, C, dx, fs, u, e1, e2, e3, e4, e5, e6⟩ := hf _ _ _ _ _ (i_jn (w := w.to I1) (hA.step s1).go) (tp_sub (j := true) s1.sub) ra
    exact ⟨p, C, dx, fs, u, e1, e2, e3, e4, e5, kk _ _ I1 H1 pa s1 (B.up (i_tp (w := w.to I1) j (hA.step s1).go) e6)⟩) x
theorem se_isO {C1 C2 : Addr} {b : Bool} {ta : TE} {A : Rp α} {ma : D α} (ty : (∀ J I v a, A.top J I v a → ∀ H, Same J H → TyX Z.K H v (.ref C1)) ∧ PySem.W.kitOne Z.K (.ref C1) (.ref C2) = some b) (ha : SE Z true Γ ta A ma) : SE Z j Γ (tCB (rIsi Z.K) (tCons ta (tCons (tC (.ref C2)) tNil))) rB (D.bind ma fun _ => D.pure b) := fun φ σ w H Q P X hn hA hm kk x =>
  ha φ σ w H _ _ X hn hA hm (fun d v I1 H1 pd s1 rd => ⟨v, .ref C2, _, _, b, rfl, .own C2, ty.1 _ _ _ _ rd _ (tp_sub (j := true) s1.sub), ty.2, kk b (.bl b) I1 H1 pd s1 rfl⟩) x
/-! ### a well made for one call -/
theorem se_callWW {E E2 : XK} {k : Nat} {te : TE} {t : TA} {S : Rps β} {R : Rp γ} {mi : D Int} {mb : D β} {m : β → D γ} (he : SE Z true Γ te rI mi) (h : SA Z false Γ t S mb) : SE Z j Γ (tCall (spW k S R m) [] E (tCons (tCall (spWl k) [] E2 (tCons te tNil)) t)) R (D.bind mi fun _ => D.bind mb fun b => D.nox (m b)) := fun φ σ w H Q P X hn hA hm kk x =>
  he φ σ w H _ _ X hn hA hm (fun n v I1 H1 pn s1 rn => by
    cases (show v = .int n from rn)
    refine ⟨n, rfl, fun p ns hp hl => ?_⟩
    have A1 := hA.step s1
    have g1 : Go (w.to I1) H1 I1 (upd H1 p (.lst (ns.map V.int))) := go_loose (w := w.to I1) hp (Go.rf (w := w.to I1) s1.sub) (s1.sub.free hp) _
    have g2 := s1.trans g1
    have oo := own_fresh A1 hp
    refine h φ σ (w.to I1) _ _ _ X hn (hA.step g2) pn (fun b us I2 H2 pb s2 rb => ?_) (xg g2 x)
    have e2 : H2 p = some (.lst (ns.map V.int)) := s2.kept _ _ oo.2 upd_same
    have i2 : I2 p = none := (s2.new p (nn upd_same)).trans (s1.sub.free hp)
    show spW k S R m ((.ref p :: us) ++ []) H2 Q E
    rw [List.append_nil]
    refine ⟨p, ns, us, I2, b, P, rfl, e2, hl, i2, s2.sub, rb, pb, fun c u I' H' pc g rc => ?_⟩
    have g3 := g1.trans s2
    have old : ∀ {b : Addr}, H1 b ≠ none → b ≠ p := fun hb z => hb (by rw [z]; exact hp)
    have g4 : Go (w.to I1) H1 I' H' := ⟨g3.i.trans g.i, g.sub, fun b hb => (g.new b (g3.dom b hb)).trans (g3.new b hb), fun b o n e => g.h b o (old (nn e)) (g3.kept b o n e), fun b i ns n e => by
      obtain ⟨n2, q1, q2⟩ := g3.wells b i ns n e
      exact ⟨n2, g.h _ _ (old (nn e)) q1, q2⟩, fun b hb => by
      obtain ⟨o, e⟩ := sm (g3.dom b hb)
      exact nn (g.h b o (old hb) e)⟩
    have g5 := s1.trans g4
    exact kk c u I' H' pc g5 (R.up (i_tp (w := w.to I') j (hA.step g5).go) rc)) x
end
end Lx
namespace Lx
open PySem PySem.Spec PyProof.Rows L2 TL PySem.Builtin.Str
open My (Asc)
/-- find and partition tell the same place -/
theorem find_part (x y : Str) : (∃ i : Nat, Txt.find x y = (i : Int) ∧ Txt.partition x y = (cutS x none (some (i : Int)), y, cutS x (some ((i : Int) + y.length)) none)) ∨ (Txt.find x y = -1 ∧ Txt.partition x y = (x, Str.empty, Str.empty)) := by
  unfold Txt.find Txt.partition
  cases h : occurrences x y 0 x.length 1 with
  | nil => exact .inr ⟨rfl, rfl⟩
  | cons i r =>
    refine .inl ⟨i, rfl, ?_⟩
    have e1 : strSub x 0 i = cutS x none (some (i : Int)) := ext_tl (by
      rw [tl_strSub]
      show _ = ((tl x).drop 0).take (HT.sIx x.length x.length (some (i : Int)) - 0)
      rw [HT.sIx_nat, List.drop_zero, Nat.sub_zero, Nat.sub_zero]
      have hx : (tl x).length = x.length := My.len_tl x
      by_cases hi : i ≤ x.length
      · rw [Nat.min_eq_left hi]
      · rw [Nat.min_eq_right (by omega), List.take_of_length_le (by omega), List.take_of_length_le (by omega)])
    have e2 : strSub x (i + y.length) x.length = cutS x (some ((i : Int) + y.length)) none := ext_tl (by
      rw [tl_strSub]
      show _ = ((tl x).drop (HT.sIx x.length 0 (some ((i : Int) + y.length)))).take (x.length - HT.sIx x.length 0 (some ((i : Int) + y.length)))
      have hc : (i : Int) + y.length = ((i + y.length : Nat) : Int) := by omega
      rw [hc, HT.sIx_nat]
      have hx : (tl x).length = x.length := My.len_tl x
      by_cases hi : i + y.length ≤ x.length
      · rw [Nat.min_eq_left hi]
      · rw [Nat.min_eq_right (by omega), List.drop_of_length_le (by omega), List.drop_of_length_le (by omega)]
        simp)
    rw [← e1, ← e2]
theorem strip_sub (g : Nat → Bool) (l r : Bool) (x : Str) : (Txt.stripBy g l r x).length ≤ x.length ∧ ∀ c ∈ (Txt.stripBy g l r x).cps.toList, c ∈ x.cps.toList := by
  unfold Txt.stripBy
  split
  · exact ⟨Nat.le_refl _, fun c h => h⟩
  · unfold stripped PySem.Builtin.Str.strSub
    constructor
    · show (Array.extract _ _ _).size ≤ x.cps.size
      rw [Array.size_extract]
      omega
    · intro c hc
      have hc' : c ∈ (Array.extract x.cps _ _).toList := hc
      rw [Array.toList_extract] at hc'
      exact List.mem_of_mem_drop (List.mem_of_mem_take hc')
theorem strip_ok {a b : Str} (h : Asc a) : Asc (Txt.stripChars a b) ∧ (Txt.stripChars a b).length ≤ a.length := by
  have := strip_sub (fun c => b.cps.contains c) true true a
  exact ⟨fun c hc => h c (by unfold Txt.stripChars at hc; exact (strip_sub _ _ _ a).2 c hc), by unfold Txt.stripChars; exact (strip_sub _ _ _ a).1⟩
theorem forD_unit {α γ : Type} {body : α → Unit → M γ Unit Unit} {rt : γ → Prop} {nx : Unit → Prop} {X : Ex → Prop} (hn : nx ()) : ∀ {xs : List α}, (∀ x ∈ xs, ∀ k : Unit → Prop, k () → body x () rt k nx k X) → forD body rt nx X xs ()
  | [], _ => hn
  | x :: xs, h => h x (List.mem_cons_self ..) _ (forD_unit hn fun y hy => h y (List.mem_cons_of_mem _ hy))
theorem of_ints {I : Hp} : ∀ ns : List Int, Paired (rI.rep I) (ns.map V.int) ns
  | [] => .nil
  | _ :: r => .cons rfl (of_ints r)
theorem law_imp {K : PySem.W.Frag} : ∀ vs H Q E, My.spLaw K vs H Q E → spF0 (rsC (rScr K rI) rs0) rB (fun _ => D.pure true) vs H Q E := fun vs H Q E ⟨a, ns, e, hs, hl, q⟩ =>
  ⟨H, (⟨ns⟩, ()), fun c => c = true, Same.refl _, ⟨.ref a, [], e, ⟨a, ns.map V.int, rfl, hs, Nat.le_trans hl (by decide), of_ints ns⟩, rfl⟩, rfl, fun c v I' H' pc _ r => by
    subst pc
    rw [show v = .bl true from r]
    exact q H'⟩
section
variable {K : PySem.W.Frag}
theorem ro_strip2 : ROM (fun x xs H Q => ∃ a b, x = .str a ∧ xs = [.str b] ∧ a.length ≤ sizeLine ∧ Q (.str (Txt.stripChars a b)) H) rS (rsC rS rs0) rS (fun a b => D.pure (Txt.stripChars a b.1)) := fun J I H v us a b Q P X sj s ha hb hk q => ro_strip J I H v us a b Q P X sj s ha hb ⟨strip_ok ha.2.1, hk⟩ q
theorem spl_sub (S : List Nat) : ∀ (L : List Nat) (k : Nat) (acc : List Nat), (spl S k acc L).length ≤ L.length + 1 ∧ ∀ p ∈ spl S k acc L, p.length ≤ acc.length + L.length ∧ ∀ c ∈ p, c ∈ acc ∨ c ∈ L
  | [], k, acc => by
    rw [spl_nil]
    refine ⟨Nat.le_refl _, fun p hp => ?_⟩
    rw [List.mem_singleton.mp hp]
    exact ⟨Nat.le_add_right _ _, fun c hc => .inl hc⟩
  | c :: r, 0, acc => by
    cases h : pre S (c :: r) with
    | true =>
      rw [spl_hit h]
      obtain ⟨h1, h2⟩ := spl_sub S r (S.length - 1) []
      refine ⟨by rw [List.length_cons, List.length_cons]; omega, fun p hp => ?_⟩
      rcases List.mem_cons.mp hp with rfl | hp
      · exact ⟨Nat.le_add_right _ _, fun c hc => .inl hc⟩
      · have := h2 p hp
        refine ⟨by have := this.1; rw [List.length_nil] at this; rw [List.length_cons]; omega, fun c hc => ?_⟩
        rcases this.2 c hc with z | z
        · cases z
        · exact .inr (List.mem_cons_of_mem _ z)
    | false =>
      rw [spl_miss h]
      obtain ⟨h1, h2⟩ := spl_sub S r 0 (acc ++ [c])
      refine ⟨by rw [List.length_cons]; omega, fun p hp => ?_⟩
      have := h2 p hp
      refine ⟨by have := this.1; rw [List.length_append, List.length_singleton] at this; rw [List.length_cons]; omega, fun d hd => ?_⟩
      rcases this.2 d hd with z | z
      · rcases List.mem_append.mp z with z | z
        · exact .inl z
        · rw [List.mem_singleton.mp z]
          exact .inr (List.mem_cons_self ..)
      · exact .inr (List.mem_cons_of_mem _ z)
  | c :: r, k + 1, acc => by
    obtain ⟨h1, h2⟩ := spl_sub S r k acc
    show (spl S k acc r).length ≤ _ ∧ ∀ p ∈ spl S k acc r, _
    refine ⟨by rw [List.length_cons]; omega, fun p hp => ?_⟩
    have := h2 p hp
    refine ⟨by have := this.1; rw [List.length_cons]; omega, fun d hd => ?_⟩
    rcases this.2 d hd with z | z
    · exact .inl z
    · exact .inr (List.mem_cons_of_mem _ z)
theorem split_ok (x y : Str) (hy : tl y ≠ []) (hk : y.cps.all (· < 256) = true) : (Txt.split x y).length ≤ x.length + 1 ∧ ∀ p ∈ Txt.split x y, p.length ≤ x.length ∧ (Asc x → Asc p) := by
  have e := split_spl x y hy (kind_ok hk)
  obtain ⟨h1, h2⟩ := spl_sub (tl y) (tl x) 0 []
  have ez : (tl x).length = x.length := My.len_tl x
  rw [← e, List.length_map, ez] at h1
  refine ⟨h1, fun p hp => ?_⟩
  have := h2 (tl p) (by rw [← e]; exact List.mem_map.mpr ⟨p, hp, rfl⟩)
  rw [ez, List.length_nil] at this
  have ep : (tl p).length = p.length := My.len_tl p
  refine ⟨by omega, fun ax c hc => ?_⟩
  rcases this.2 c hc with z | z
  · cases z
  · exact ax c z
theorem ro_split2 : ROM (fun x xs H Q => ∃ a b, x = .str a ∧ xs = [.str b] ∧ (b.length == 0) = false ∧ a.length + 2 ≤ sizeLine ∧ rNewStrs (Txt.split a b) H Q) rS (rsC rS rs0) (rL rS) (fun a b => D.need (tl b.1 ≠ [] ∧ (b.1.length == 0) = false ∧ b.1.cps.all (· < 256) = true ∧ a.length + 2 ≤ sizeLine) (D.pure (Txt.split a b.1))) := fun J I H v us a b Q P X sj s ha hb hk q =>
  ro_split J I H v us a b Q P X sj s ha hb (by
    obtain ⟨h1, h2⟩ := split_ok a b.1 hk.1.1 hk.1.2.2.1
    have := hk.1.2.2.2
    exact ⟨⟨hk.1.2.1, this, by omega, fun z hz => ⟨(h2 z hz).2 ha.2.1, by have := (h2 z hz).1; omega⟩⟩, hk.2⟩) q
def isNoneD (d : PyData) : Bool := match d with
  | .none => true
  | _ => false
theorem isNone_of {H : Hp} {v : V} {d : PyData} (h : Dp K H v d) : decide (v = .non) = isNoneD d := by cases h <;> rfl
theorem ro_isND : RO2 (fun x y H Q => y = .non ∧ Q (.bl (decide (x = .non))) H) (rD K) rN rB (fun d _ => D.pure (isNoneD d)) := fun J I H v u a b Q P X sj s ha hb hk q => ⟨hb, q _ _ I H hk (Gw.refl (sj.trans s)) (congrArg V.bl (isNone_of ha.1))⟩
theorem ro_notND : RO2 (fun x y H Q => y = .non ∧ Q (.bl (!decide (x = .non))) H) (rD K) rN rB (fun d _ => D.pure (!isNoneD d)) := fun J I H v u a b Q P X sj s ha hb hk q => ⟨hb, q _ _ I H hk (Gw.refl (sj.trans s)) (by rw [isNone_of ha.1]; rfl)⟩
theorem part_ok {x y : Str} (hx : Asc x ∧ x.length ≤ sizeLine) (hy : Asc y ∧ y.length ≤ sizeLine) : (Asc (Txt.partition x y).1 ∧ (Txt.partition x y).1.length ≤ sizeLine) ∧ (Asc (Txt.partition x y).2.1 ∧ (Txt.partition x y).2.1.length ≤ sizeLine) ∧ Asc (Txt.partition x y).2.2 ∧ (Txt.partition x y).2.2.length ≤ sizeLine := by
  have e0 : Asc Str.empty ∧ Str.empty.length ≤ sizeLine := ⟨(fun c h => nomatch h), Nat.zero_le _⟩
  rcases find_part x y with ⟨i, _, e⟩ | ⟨_, e⟩
  · rw [e]
    exact ⟨⟨My.asc_cut hx.1 _ _, Nat.le_trans (My.cutS_len _ _ _) hx.2⟩, hy, My.asc_cut hx.1 _ _, Nat.le_trans (My.cutS_len _ _ _) hx.2⟩
  · rw [e]
    exact ⟨hx, e0, e0⟩
theorem ro_partition2 : ROM (fun x xs H Q => ∃ a b, x = .str a ∧ xs = [.str b] ∧ (b.length == 0) = false ∧ a.length ≤ sizeLine ∧
      ∀ p, H p = none → Q (.ref p) (upd H p (.tup [.str (Txt.partition a b).1, .str (Txt.partition a b).2.1, .str (Txt.partition a b).2.2]))) rS (rsC rS rs0) (rTu K (rsC rS (rsC rS (rsC rS rs0))))
    (fun a b => D.need ((b.1.length == 0) = false) (D.pure ⟨(Txt.partition a b.1).1, (Txt.partition a b.1).2.1, (Txt.partition a b.1).2.2, ()⟩)) := fun J I H v us a b Q P X sj s ha hb hk q =>
  ro_partition J I H v us a b Q P X sj s ha hb ⟨⟨hk.1, part_ok ha.2 (by obtain ⟨v2, r, e, h1, h2⟩ := hb; exact h1.2)⟩, hk.2⟩ q
theorem ro_dfO {f : List Int → Option Int} : ROK (My.rDf K f) (rsC (rL rI) rs0) (rsC (rO rI) rs0) (rO rI) (fun b d => D.pure ((f b.1).or d.1)) := fun J I H vs us b d Q P X sj s ⟨v, r, e, ⟨p, ws, e1, e2, l, pr⟩, h2⟩ ⟨v2, r2, e3, e4, h4⟩ hk q => by
  cases (show r = [] from h2)
  cases (show r2 = [] from h4)
  subst e1
  have e5 : (rO rI).rep I (My.orV v2 (f b.1)) ((f b.1).or d.1) := by
    cases f b.1 with
    | some n => exact (show V.int n ≠ .non ∧ V.int n = .int n from And.intro (fun e => by cases e) rfl)
    | none =>
      show (rO rI).rep I v2 d.1
      cases hd : d.1 with
      | none => rw [hd] at e4; exact e4
      | some n => rw [hd] at e4; exact e4
  exact ⟨p, b.1, v2, e, e3, by rw [← ints_of pr]; exact SqL.of (s _ _ e2), q _ _ I H hk (Gw.refl (sj.trans s)) e5⟩
end
end Lx
namespace Lx
open PySem PySem.Spec PyProof.Rows L2 TL
open My (Asc)
section
variable {Z : Px} {j : Bool} {Γ : List Cell} {α β γ δ : Type} {K : PySem.W.Frag}
/-! ### lists that are new -/
def SN (Z : Px) (Γ : List Cell) (t : TE) (A : Rp α) (m : D (List α)) : Prop :=
  ∀ (φ : Fr) (σ : L2.St) (w : Wd) (H : Hp) (Q : VK) (P : List α → Prop) (X : Ex → Prop), φ.n = Z.n → At φ Γ σ w H → m P X →
    (∀ ys us p I' H', P ys → Go w H I' H' → H p = none → I' p = none → H' p = some (.lst us) → ys.length ≤ sizeLine → Paired (A.rep I') us ys → Q (.ref p) H') →
    (∀ e c d I' H', X e → Go w H I' H' → e.rep Z.K Z.mg I' c d → Z.E σ c d H') → t σ H Q
theorem none_of {w : Wd} {H I' H' : Hp} (g : Go w H I' H') {p : Addr} (h : H' p = none) : H p = none := by
  cases e : H p with
  | none => rfl
  | some o => exact absurd h (g.dom p (nn e))
theorem sn_lc {wi : TI} {g : TG} {tt : TT} {te : TE} {vs is : List Nat} {A : Rp α} {R : Rp β} {cs : α → List Cell} {mi : D (List α)} {mt : α → D Bool} {me : α → D β} (hi : SI Z true Γ wi A mi) (hg : SG Z.K g A is cs) (hv : is.all (fun i => vs.contains i) = true) (hin : is.all (fun i => decide (i < Z.n)) = true)
    (ht : ∀ x, ST Z (cs x ++ (xs vs ++ Γ)) tt (mt x)) (he : ∀ x, SE Z false (cs x ++ (xs vs ++ Γ)) te R (me x)) (hE : ∀ a b, Z.E a = Z.E b := by intros; rfl) : SN Z Γ (tLc wi g tt te vs) R (D.bind mi fun ys => compD mt me ys) := fun φ σ w H Q P X hn hA hm k x =>
  hi φ σ w H _ _ X hn hA hm (fun ys T I1 H1 px g1 hl wk Dd hD => by
    have x' : ∀ σ', ∀ e c d I' H', X e → Go w H I' H' → e.rep Z.K Z.mg I' c d → Z.E σ' c d H' := fun σ' e c d I' H' a b r => by rw [hE σ' σ]; exact x e c d I' H' a b r
    have hA1 := hA.step g1
    have woff : ∀ j, j ∉ vs → (wipe σ vs)[j]? = σ[j]? := fun j h => wipe_out h
    have wlen : (wipe σ vs).length = φ.n := (wipe_length _ _).trans hA1.len
    have ownD : w.own Dd = none := (own_fresh hA1 hD).1
    have wlD : w.wl Dd = none := (own_fresh hA1 hD).2
    have ID : I1 Dd = none := g1.sub.free hD
    have g0 : Go (w.to I1) H1 I1 (upd H1 Dd (.lst [])) := go_loose (w := w.to I1) hD (Go.rf (w := w.to I1) g1.sub) ID _
    have keepD : ∀ {I2 H2 : Hp} {us : List V} {I3 H3 : Hp}, Go (w.to I1) H1 I2 H2 → H2 Dd = some (.lst us) → I2 Dd = none → Go (w.to I2) H2 I3 H3 → H3 Dd = some (.lst us) ∧ I3 Dd = none := fun g2 e2 i2 g3 => ⟨g3.kept _ _ wlD e2, (g3.new Dd (nn e2)).trans i2⟩
    have holdW : ∀ {I2 H2 : Hp}, Hold σ (w.to I2) H2 Γ → Hold (wipe σ vs) (w.to I2) H2 (xs vs ++ Γ) := fun h => hold_tgt woff (xs_i vs) (xs_hold vs) h
    refine ⟨fun i m H' => ∃ I' zs us, i + m = ys.length ∧ Go (w.to I1) H1 I' H' ∧ Hold σ (w.to I') H' Γ ∧ H' Dd = some (.lst us) ∧ I' Dd = none ∧ Paired (R.rep I') us zs ∧ zs.length ≤ i ∧ compD mt me (ys.drop i) (fun r => P (zs ++ r)) X, ⟨ys.length, I1, [], [], by omega, g0, fun i c e => holds_loose (w := w.to I1) ownD wlD _ (hA1.hold i c e), upd_same, ID, .nil, Nat.le_refl _, px⟩, ?_⟩
    rintro i m H' ⟨I', zs, us, em, go', hold', eD, iD, pr, yl, pf⟩
    have at0 : At φ Γ σ (w.to I') H' := ⟨(hA1.step go').go, hA1.len, hold'⟩
    by_cases hend : i = ys.length
    · left
      subst hend
      rw [List.drop_length] at pf
      refine ⟨wk.stop H' ((tp_go (j := true) go').trans (tp_sub (j := true) go'.sub)), ?_⟩
      have pf' : P (zs ++ []) := pf
      rw [List.append_nil] at pf'
      exact k zs us Dd I' H' pf' (g1.trans go') (none_of g1 hD) iD eD (Nat.le_trans yl hl) pr
    · right
      have hi' : i < ys.length := by omega
      refine ⟨wk.go i H' hi' ((tp_go (j := true) go').trans (tp_sub (j := true) go'.sub)), fun H2 => ∃ I2 zs2 us2, Go (w.to I1) H1 I2 H2 ∧ Hold σ (w.to I2) H2 Γ ∧ H2 Dd = some (.lst us2) ∧ I2 Dd = none ∧ Paired (R.rep I2) us2 zs2 ∧ zs2.length ≤ i + 1 ∧ compD mt me (ys.drop (i + 1)) (fun r => P (zs2 ++ r)) X,
        fun H2 ⟨I2, zs2, us2, a1, a2, a3, a4, a5, a6, a7⟩ => ⟨m - 1, by omega, I2, zs2, us2, by omega, a1, a2, a3, a4, a5, a6, a7⟩, fun y H2 hy => ?_⟩
      obtain ⟨a, I2, ea, gw, ra⟩ := wk.yld i I' H' y H2 hi' ((tp_go (j := true) go').trans (tp_sub (j := true) go'.sub)) go'.i go'.sub hy
      have go2 : Go (w.to I') H' I2 H2 := .of_gw gw
      have at2 : At φ Γ σ (w.to I2) H2 := at0.step go2
      have ed : ys.drop i = a :: ys.drop (i + 1) := by
        rw [List.drop_eq_getElem_cons hi']
        rw [List.getElem?_eq_getElem hi'] at ea
        cases ea
        rfl
      rw [ed] at pf
      have pf := compD_mono mt me P X zs a _ pf
      obtain ⟨eD2, iD2⟩ := keepD go' eD iD go2
      refine hg.2 y a (wipe σ vs) (w.to I2) H2 φ.n _ wlen (fun i z => by rw [hn]; exact of_decide_eq_true (List.all_eq_true.mp hin i z)) go2.sub ra fun σ2 hl2 he2 hh2 => ⟨?_, ?_⟩
      · rw [← wipe_wipe σ vs]
        refine wipe_eq (fun j hj => he2 j fun z => hj ?_) (hl2.trans wlen.symm)
        have := List.all_eq_true.mp hv j z
        simpa using this
      · have at3 : At φ (cs a ++ (xs vs ++ Γ)) σ2 (w.to I2) H2 := ⟨at2.go, hl2, hold_tgt he2 (hg.1 a) hh2 (holdW at2.hold)⟩
        refine ht a φ σ2 (w.to I2) H2 _ _ X hn at3 pf (fun b I3 H3 pb go3 => ?_) (xg ((g1.trans go').trans go2) (x' σ2))
        obtain ⟨eD3, iD3⟩ := keepD (go'.trans go2) eD2 iD2 go3
        have at4 := at2.step go3
        cases b with
        | false => exact ⟨I3, zs, us, (go'.trans go2).trans go3, at4.hold, eD3, iD3, prd_mono R (go2.trans go3).i pr, by omega, pb⟩
        | true =>
          refine he a φ σ2 (w.to I3) H3 _ _ X hn (at3.step go3) pb (fun z v I4 H4 pz go4 rz => ?_) (xg (((g1.trans go').trans go2).trans go3) (x' σ2))
          obtain ⟨eD4, iD4⟩ := keepD ((go'.trans go2).trans go3) eD3 iD3 go4
          have go5 := ((go'.trans go2).trans go3).trans go4
          have at5 := at4.step go4
          refine ⟨us, eD4, Nat.lt_of_lt_of_le (show us.length < ys.length by rw [prd_len pr]; omega) hl, I4, zs ++ [z], us ++ [v], go_loose hD go5 iD4 _, fun i c e => holds_loose (w := w.to I4) ownD wlD _ (at5.hold i c e), upd_same, iD4, paired_app (prd_mono R ((go2.trans go3).trans go4).i pr) (.cons rz .nil), by rw [List.length_append]; simp; omega, ?_⟩
          have e : (fun r => P (zs ++ [z] ++ r)) = (fun r => P (zs ++ (z :: r))) := by
            funext r
            rw [List.append_assoc]
            rfl
          rw [e]
          exact pz)
    x
/-- a new list is a list -/
theorem SN.se {t : TE} {A : Rp α} {m : D (List α)} (h : SN Z Γ t A m) : SE Z j Γ t (rL A) m := fun φ σ w H Q P X hn hA hm k x =>
  h φ σ w H Q P X hn hA hm (fun ys us p I' H' py g hp ip ep ly pr => by
    have s2 : Same I' (upd I' p (.lst us)) := My.same_upd ip
    have old : ∀ {b : Addr}, H b ≠ none → b ≠ p := fun hb z => hb (by rw [z]; exact hp)
    have g2 : Go w H (upd I' p (.lst us)) H' := by
      refine ⟨g.i.trans s2, fun b o e => ?_, fun b hb => (show (upd I' p (.lst us)) b = I' b from upd_ne (old hb)).trans (g.new b hb), g.kept, g.wells, g.dom⟩
      by_cases z : b = p
      · subst z
        rw [upd_same] at e
        rw [ep]
        exact e
      · rw [upd_ne z] at e
        exact g.sub _ _ e
    exact k ys _ _ H' py g2 ((rL A).up (i_tp (w := w.to _) j (hA.step g2).go) ⟨p, us, rfl, upd_same, ly, prd_mono A s2 pr⟩)) x
theorem sn_lst {n : Nat} {t : TA} {A : Rp α} {m : D (List α)} (h : SA Z false Γ t (rsLn A n) m) (l : n ≤ 1000 := by decide) : SN Z Γ (tLst t) A m := fun φ σ w H Q P X hn hA hm k x =>
  h φ σ w H _ _ X hn hA hm (fun xs vs I1 H1 pa s1 ra => ⟨(ln_le l ra).1, fun p hp => k xs vs p I1 _ pa (s1.trans (go_loose (w := w.to I1) hp (Go.rf (w := w.to I1) s1.sub) (s1.sub.free hp) _)) (none_of s1 hp) (s1.sub.free hp) upd_same (ln_le l ra).2 ra.1⟩) x
/-- what gives a new list -/
def ROAn (r : List V → Hp → VK → Prop) (S : Rps β) (A : Rp α) (k : β → D (List α)) : Prop := ∀ (J I H : Hp) (vs : List V) (b : β) (Q : VK) (P : List α → Prop) (X : Ex → Prop), Same I J → Same J H → S.top J I vs b → k b P X →
  (∀ ys us p, P ys → H p = none → ys.length ≤ sizeLine → Paired (A.rep I) us ys → Q (.ref p) (upd H p (.lst us))) → r vs H Q
theorem sn_cb {r : List V → Hp → VK → Prop} {S : Rps β} {A : Rp α} {k : β → D (List α)} {t : TA} {m : D β} (ro : ROAn r S A k) (h : SA Z true Γ t S m) : SN Z Γ (tCB r t) A (D.bind m k) := fun φ σ w H Q P X hn hA hm kk x =>
  h φ σ w H _ _ X hn hA hm (fun a v I1 H1 pa s1 ra => ro (Jn w H1) I1 H1 v a Q P X (i_jn (w := w.to I1) (hA.step s1).go) (tp_sub (j := true) s1.sub) ra pa fun ys us p py hp ly pr =>
    kk ys us p I1 _ py (s1.trans (go_loose (w := w.to I1) hp (Go.rf (w := w.to I1) s1.sub) (s1.sub.free hp) _)) (none_of s1 hp) (s1.sub.free hp) upd_same ly pr) x
theorem rn_listL {A : Rp α} : ROAn (fun xs H Q => ∃ p ys, xs = [.ref p] ∧ (SqL K H p ys ∨ SqT K H p ys) ∧ ∀ l, H l = none → Q (.ref l) (upd H l (.lst ys))) (rsC (rL A) rs0) A (fun b => D.pure b.1) := fun J I H vs b Q P X sj s ⟨v, r, e, ⟨p, us, e1, e2, l, pr⟩, h2⟩ hk q => by
  cases (show r = [] from h2)
  subst e1
  exact ⟨p, us, e, .inl (SqL.of (s _ _ e2)), fun n hn => q _ _ _ hk hn l pr⟩
theorem rn_listT {A : Rp α} : ROAn (fun xs H Q => ∃ p ys, xs = [.ref p] ∧ (SqL K H p ys ∨ SqT K H p ys) ∧ ∀ l, H l = none → Q (.ref l) (upd H l (.lst ys))) (rsC (rT K A) rs0) A (fun b => D.pure b.1.l) := fun J I H vs b Q P X sj s ⟨v, r, e, ⟨p, us, e1, e2, l, pr⟩, h2⟩ hk q => by
  cases (show r = [] from h2)
  subst e1
  exact ⟨p, us, e, .inr (Same.seqT s e2), fun n hn => q _ _ _ hk hn l pr⟩
theorem rn_listQ {A : Rp α} : ROAn (fun xs H Q => ∃ p ys, xs = [.ref p] ∧ (SqL K H p ys ∨ SqT K H p ys) ∧ ∀ l, H l = none → Q (.ref l) (upd H l (.lst ys))) (rsC (rQ K A) rs0) A (fun b => D.pure b.1.l) := fun J I H vs b Q P X sj s ⟨v, r, e, ⟨p, us, e1, e2, l, pr⟩, h2⟩ hk q => by
  cases (show r = [] from h2)
  subst e1
  exact ⟨p, us, e, e2.elim (fun h => .inl (SqL.of (s _ _ h))) (fun h => .inr (Same.seqT s h)), fun n hn => q _ _ _ hk hn l pr⟩
def RO2n (r : R2) (A : Rp α) (B : Rp β) (C : Rp γ) (k : α → β → D (List γ)) : Prop := ∀ (J I H : Hp) (v u : V) (a : α) (b : β) (Q : VK) (P : List γ → Prop) (X : Ex → Prop), Same I J → Same J H → A.top J I v a → B.top J I u b → k a b P X →
  (∀ ys us p, P ys → H p = none → ys.length ≤ sizeLine → Paired (C.rep I) us ys → Q (.ref p) (upd H p (.lst us))) → r v u H Q
theorem sn_op {r : R2} {A : Rp α} {B : Rp β} {C : Rp γ} {k : α → β → D (List γ)} {ta tb : TE} {ma : D α} {mb : D β} (ro : RO2n r A B C k) (ha : SE Z true Γ ta A ma) (hb : SE Z true Γ tb B mb) : SN Z Γ (tOp r ta tb) C (D.bind ma fun a => D.bind mb fun b => k a b) := fun φ σ w H Q P X hn hA hm kk x =>
  ha φ σ w H _ _ X hn hA hm (fun a v I1 H1 pa s1 ra => hb φ σ (w.to I1) H1 _ _ X hn (hA.step s1) pa (fun b u I2 H2 pb s2 rb => ro (Jn w H2) I2 H2 v u a b Q P X (i_jn (w := w.to I2) (hA.step (s1.trans s2)).go) (tp_sub (j := true) s2.sub) (A.mono (tp_go (w := w.to I1) (j := true) s2) s2.i ra) rb pb fun ys us p py hp ly pr =>
    kk ys us p I2 _ py ((s1.trans s2).trans (go_loose (w := w.to I2) hp (Go.rf (w := w.to I2) s2.sub) (s2.sub.free hp) _)) (none_of (s1.trans s2) hp) (s2.sub.free hp) upd_same ly pr) (xg s1 x)) x
theorem rn_cat {A : Rp α} : RO2n rCat (rL A) (rL A) A (fun xs ys => D.need (xs.length + ys.length ≤ sizeLine) (D.pure (xs ++ ys))) := fun J I H v u a b Q P X sj s ha hb hk q => by
  obtain ⟨p, vs, rfl, e, l, pr⟩ := ha
  obtain ⟨p2, vs2, rfl, e2, l2, pr2⟩ := hb
  exact ⟨p, p2, vs, vs2, rfl, rfl, s _ _ e, s _ _ e2, by rw [prd_len pr, prd_len pr2]; exact hk.1, fun n hn => q _ _ _ hk.2 hn (by rw [List.length_append]; exact hk.1) (paired_app pr pr2)⟩
section
variable {S L S' : Type} {R : Rf γ} {Γn : S → List Cell} {Γl : L → List Cell}
theorem holds_own {σ : L2.St} {w : Wd} {H : Hp} {p : Addr} {i : Nat} (ho : w.own p = none) {c : Cell} (h : c.holds σ w H) : c.holds σ ⟨w.I, fun b => if b = p then some i else w.own b, w.wl⟩ H := by
  obtain ⟨K, k, x⟩ := c
  cases K with
  | p R => exact h
  | l R =>
    obtain ⟨v, e, L, vs, e1, e2, e3, e4, e5⟩ := h
    exact ⟨v, e, L, vs, e1, (if_neg (fun z => by rw [z, ho] at e2; cases e2)).trans e2, e3, e4, e5⟩
  | o F =>
    obtain ⟨v, e, l, e1, e2⟩ := h
    exact ⟨v, e, l, fun b hb => ⟨(if_neg (fun z => by have := (e1 b hb).1; rw [z, ho] at this; cases this)).trans (e1 b hb).1, (e1 b hb).2⟩, e2⟩
  | w k => exact h
  | x => exact h
theorem at_own {φ : Fr} {σ : L2.St} {w : Wd} {H : Hp} {i : Nat} {p : Addr} {A : Rp α} {us : List V} {ys : List α} (hA : At φ Γ σ w H) (hi : i < φ.n) (h0 : φ.H0 p = none) (ip : w.I p = none) (hp : H p = some (.lst us)) (ho : w.own p = none) (hw : w.wl p = none) (hl : ys.length ≤ sizeLine) (pr : Paired (A.rep w.I) us ys) :
    At φ (⟨.l A, i, ys⟩ :: Γ) (σ.set i (some (.ref p))) ⟨w.I, fun b => if b = p then some i else w.own b, w.wl⟩ H := by
  have old : ∀ {b : Addr}, φ.H0 b ≠ none → b ≠ p := fun hb z => hb (by rw [z]; exact h0)
  refine ⟨⟨hA.go.i, hA.go.inew, fun b hb => (if_neg (old hb)).trans (hA.go.onew b hb), hA.go.wnew, hA.go.keep, hA.go.sub, fun b k e => ?_, hA.go.apw, hA.go.wells, hA.go.dom⟩, by rw [List.length_set]; exact hA.len, ?_⟩
  · have e' : (if b = p then some i else w.own b) = some k := e
    by_cases z : b = p
    · subst z
      exact ⟨ip, nn hp, hw⟩
    · rw [if_neg z] at e'
      exact hA.go.apo b k e'
  · exact hold_tgt (cs := [⟨.l A, i, ys⟩]) (is := [i]) (fun j hj => set_off (by simpa using hj)) rfl (holdC1 ⟨_, set_at (by rw [hA.len]; exact hi), p, us, rfl, if_pos rfl, hp, hl, pr⟩) (fun j c e => holds_own ho (hA.hold j c e))
/-- x = (a new list), which the slot owns -/
theorem sb_own {i : Nat} {te : TE} {u : TS} {A : Rp α} {me : D (List α)} {m : List α → M γ S L} (hi : i < Z.n) (he : SN Z Γ te A me) (hu : ∀ ys, SB Z (⟨.l A, i, ys⟩ :: Γ) u R Γn Γl (m ys)) :
    SB Z Γ (tSeq (tAsg te (gName i)) u) R Γn Γl (fun rt nx bk ct X => me (fun ys => m ys rt nx bk ct X) X) := fun φ σ w H Dn rt nx bk ct X hn hA hm k1 k2 k3 k4 k5 =>
  he φ σ w H _ _ X hn hA hm (fun ys us p I' H' py g hp ip ep ly pr => by
    have oo := own_fresh hA hp
    have h0 : φ.H0 p = none := by
      cases e : φ.H0 p with
      | none => rfl
      | some o => exact absurd hp (hA.go.dom p (nn e))
    exact hu ys φ (σ.set i (some (.ref p))) _ H' Dn rt nx bk ct X hn (at_own (hA.step g) (by rw [hn]; exact hi) h0 ip ep oo.1 oo.2 ly pr) py k1 (kk2 g.i k2) (kk2 g.i k3) (kk2 g.i k4) k5)
    (kx hA.go k5)
theorem prd_set {R : V → α → Prop} {v : V} {a : α} (r : R v a) : ∀ (n : Nat) {vs : List V} {xs : List α}, Paired R vs xs → Paired R (vs.set n v) (xs.set n a)
  | _, _, _, .nil => .nil
  | 0, _, _, .cons _ t => .cons r t
  | n + 1, _, _, .cons h t => .cons h (prd_set r n t)
/-- x[k] = e of a list that the slot owns -/
theorem sb_setI {i : Nat} {te ti : TE} {u : TS} {A : Rp α} {xs : List α} {me : D α} {mi : D Int} {m : List α → M γ S L} (hl : look Γ i = some ⟨.l A, i, xs⟩) (he : SE Z false Γ te A me) (hk : SE Z true Γ ti rI mi) (hu : ∀ ys, SB Z (⟨.l A, i, ys⟩ :: Γ) u R Γn Γl (m ys)) :
    SB Z Γ (tSeq (tAsg te (gSub (tVar i) ti rSetL)) u) R Γn Γl (fun rt nx bk ct X => me (fun a => mi (fun k => ∃ n, ixN xs.length k = some n ∧ m (xs.set n a) rt nx bk ct X) X) X) := fun φ σ w H Dn rt nx bk ct X hn hA hm k1 k2 k3 k4 k5 =>
  he φ σ w H _ _ X hn hA hm (fun a v I1 H1 pa s1 ra => by
    obtain ⟨y, e, Lx, vs, f1, f2, f4, f5, f6⟩ := (hA.step s1).hold i _ hl
    subst f1
    refine ⟨_, e, hk φ σ (w.to I1) H1 _ _ X hn (hA.step s1) pa (fun k u' I2 H2 pk s2 rk => ?_) (xg s1 (kx hA.go k5))⟩
    cases (show u' = .int k from rk)
    obtain ⟨n, hn', pn⟩ := pk
    have hA2 := (hA.step s1).step s2
    obtain ⟨y', e', L', vs', g1, g2, g4, g5, g6⟩ := hA2.hold i _ hl
    rw [e] at e'
    cases e'
    cases g1
    refine ⟨Lx, vs', k, n, rfl, rfl, g4, by rw [prd_len g6]; exact hn', ?_⟩
    have g := s1.trans s2
    exact hu _ φ σ (w.to I2) _ Dn rt nx bk ct X hn (at_chL (A := A) (B := A) hA2 e g2 (by rw [List.length_set]; exact g5) (prd_set (A.mn s2.i ra) n g6)) pn k1 (kk2 g.i k2) (kk2 g.i k3) (kk2 g.i k4) k5)
    (kx hA.go k5)
def rIns : V → List V → Hp → VK → Prop := fun x vs H Q => ∃ (l : Addr) (xs : List V) (i : Int) (y : V), x = .ref l ∧ vs = [.int i, y] ∧ H l = some (.lst xs) ∧ xs.length < sizeLine ∧ 0 ≤ i ∧ i < 2 ^ 63 ∧ Q .non (upd H l (.lst (xs.take i.toNat ++ [y] ++ xs.drop i.toNat)))
theorem mt_ins {X : Cx} : MtR X "list.insert" rIns := mt_insert
/-- x.insert(k, e) of a list that the slot owns -/
theorem sb_ins {i : Nat} {te ti : TE} {u : TS} {A : Rp α} {xs : List α} {me : D α} {mi : D Int} {m : List α → M γ S L} (hl : look Γ i = some ⟨.l A, i, xs⟩) (hk : SE Z false Γ ti rI mi) (he : SE Z false Γ te A me) (hu : ∀ ys, SB Z (⟨.l A, i, ys⟩ :: Γ) u R Γn Γl (m ys)) :
    SB Z Γ (tSeq (tDrop (tBM Z.K "list" rIns (tVar i) (tCons ti (tCons te tNil)))) u) R Γn Γl (fun rt nx bk ct X => mi (fun k => me (fun a => xs.length < sizeLine ∧ 0 ≤ k ∧ k < 2 ^ 63 ∧ m (xs.take k.toNat ++ [a] ++ xs.drop k.toNat) rt nx bk ct X) X) X) := fun φ σ w H Dn rt nx bk ct X hn hA hm k1 k2 k3 k4 k5 => by
  obtain ⟨v, e, Lx, vs, f1, f2, f4, f5, f6⟩ := hA.hold i _ hl
  subst f1
  refine ⟨_, e, .inl ⟨rfl, _, SqL.of f4⟩, hk φ σ w H _ _ X hn hA hm (fun k u' I1 H1 pk s1 rk => he φ σ (w.to I1) H1 _ _ X hn (hA.step s1) pk (fun a v I2 H2 pa s2 ra => ?_) (xg s1 (kx hA.go k5))) (kx hA.go k5)⟩
  cases (show u' = .int k from rk)
  have hA2 := (hA.step s1).step s2
  have g := s1.trans s2
  obtain ⟨y', e', L', vs', g1, g2, g4, g5, g6⟩ := hA2.hold i _ hl
  rw [e] at e'
  cases e'
  cases g1
  obtain ⟨p1, p2, p3, p4⟩ := pa
  refine ⟨Lx, vs', k, v, rfl, rfl, g4, by rw [prd_len g6]; exact p1, p2, p3, ?_⟩
  exact hu _ φ σ (w.to I2) _ Dn rt nx bk ct X hn (at_chL (A := A) (B := A) hA2 e g2 (by simp only [List.length_append, List.length_take, List.length_drop, List.length_cons, List.length_nil]; omega) (paired_app (paired_app (prd_take _ g6) (.cons ra .nil)) (prd_drop _ g6))) p4 k1 (kk2 g.i k2) (kk2 g.i k3) (kk2 g.i k4) k5
/-! ### calls that may raise, and what takes it -/
theorem se_callX {t : TA} {S0 : Rps β} {R0 : Rp γ} {mb : D β} {m : β → D γ} (h : SA Z false Γ t S0 mb) : SE Z j Γ (tCallS (spF Z.K Z.mg S0 R0 m) Z.E t) R0 (D.bind mb m) := fun φ σ w H Q P X hn hA hm k x =>
  h φ σ w H _ _ X hn hA hm (fun b vs I1 H1 pa s1 ra => ⟨I1, b, P, X, s1.sub, ra, pa, fun c v I' H' pc g rc => k c v I' H' pc (s1.trans (.of_gw g)) (R0.up (i_tp (w := w.to I') j (hA.step (s1.trans (.of_gw g))).go) rc), fun e c d I' H' xe g r => x e c d I' H' xe (s1.trans (.of_gw g)) r⟩) x
theorem exrep_mono {e : Ex} {mg : Str → Option Value} {I I' : Hp} {c : Value} {d : Option Addr} (s : Same I I') (h : e.rep K mg I c d) : e.rep K mg I' c d := by
  obtain ⟨h1, dx, vs, h2, h3, h4⟩ := h
  exact ⟨h1, dx, vs, h2, s _ _ h3, Paired.mono (fun _ _ h => ⟨h.1, Dp.mn s h.2⟩) h4⟩
/-- the error that a suite holds -/
def rX (K : PySem.W.Frag) (mg : Str → Option Value) (a : Addr) (c : Value) (d : Option Addr) : Rp Ex := ⟨fun _ I v e => v = .ref a ∧ e.rep K mg I c d, fun _ t h => ⟨h.1, exrep_mono t h.2⟩⟩
/-- a try's reading, its body's kept apart -/
def tTry (K : PySem.W.Frag) (c : Value) (i : Nat) (ts : Addr → Value → Option Addr → TS) (Wout : WX) (tb : WX → TS) : TS := fun D σ H => tb (wAs K c i ts Wout D) D σ H
theorem ps_tryT {X : Cx} {x n : Str} {c : Value} {i : Nat} {body suite : List Stmt} {b₀ : Stmt} {np pos pos' : Pos} {tb : WX → TS} {ts : Addr → Value → Option Addr → TS} {Wout : WX} (hs : X.stack = X.env :: X.outer) (hf : X.env.frame = some X.env.locals) (hN : X.N.Nodup) (hi : X.N[i]? = some n) (hln : X.env.kindOf n = some .local) (hc : Names X x c) (tk : Takes X Wout)
    (hb : ∀ (W : WX) (pn : List (Addr × Obj)) (xe : Value → Shared → Prop), Takes (X.tr pn xe) W → PassesOwn (model X.prog X.w) X.A X.env xe → PSs (X.tr pn xe) body (tb W))
    (hsu : ∀ (a : Addr) (oe : Obj) (cls : Value) (d : Option Addr) (pn : List (Addr × Obj)), Zc cls d oe → (∃ vs, oe.data = .fields vs) → PSs (X.suite a ((a, oe) :: pn)) (b₀ :: suite) (ts a cls d)) :
    PS X (.Try body [.ExceptHandler (some (.Name x np)) (some n) (b₀ :: suite) pos'] [] [] pos) (tTry X.K c i ts Wout tb) := ps_try_as hs hf hN hi hln hc tk hb hsu
/-- which errors a clause takes -/
def Takn (Z : Px) (c : Value) (tb : List (Str × Bool)) : Prop := ∀ p ∈ tb, ∀ cls, Z.mg p.1 = some cls → PySem.W.exmOne Z.K cls c = some p.2
theorem takn_nil {c : Value} : Takn Z c [] := fun p hp => nomatch hp
theorem takn_cons {c : Value} {n : Str} {C : Addr} {b : Bool} {tb : List (Str × Bool)} (g : Z.mg n = some (.ref C)) (h : PySem.W.exmOne Z.K (.ref C) c = some b) (t : Takn Z c tb) : Takn Z c ((n, b) :: tb) := fun p hp cls hc => by
  rcases List.mem_cons.mp hp with rfl | hp
  · rw [g] at hc
    cases hc
    exact h
  · exact t p hp cls hc
theorem look_mem {β : Type} {n : Str} {b : β} : ∀ {tb : List (Str × β)}, tb.lookup n = some b → (n, b) ∈ tb
  | (m, c) :: r, h => by
    rw [List.lookup_cons] at h
    cases e : (n == m) with
    | true =>
      rw [e] at h
      cases h
      rw [show n = m from by simpa using e]
      exact List.mem_cons_self ..
    | false =>
      rw [e] at h
      exact List.mem_cons_of_mem _ (look_mem h)
abbrev Z0 (Z : Px) : Px := ⟨Z.K, Z.mg, fun _ _ _ _ => False, Z.n⟩
theorem try_x {i : Nat} {c : Value} {ts : Addr → Value → Option Addr → TS} {Wout : WX} {tb : List (Str × Bool)} {mh : Ex → M γ Unit L} (hW : ∀ cls d σ H, Z.E σ cls d H → Wout cls d σ H) (hc : Takn Z c tb) (hi : i < Z.n)
    (hs : ∀ a cls d e, SB (Z0 Z) (⟨.p (rX Z.K Z.mg a cls d), i, e⟩ :: Γ) (ts a cls d) R (fun _ : Unit => []) Γl (mh e)) {φ : Fr} {σ : L2.St} {w : Wd} {H I' H' : Hp} {Dn : Ends} {rt : γ → Prop} {X : Ex → Prop} {e : Ex} {cls : Value} {d : Option Addr} (hn : φ.n = Z.n) (hA : At φ Γ σ w H) (g : Go w H I' H') (r : e.rep Z.K Z.mg I' cls d)
    (hb2 : ∃ b, tb.lookup e.C = some b ∧ if b = true then mh e rt (fun _ => False) (fun _ => False) (fun _ => False) (fun _ => False) else X e)
    (k1 : ∀ c v w' H', rt c → Gf φ.w0 φ.H0 w' H' → R w' H' v c → Dn.rt v H') (k5 : ∀ e c d w' H', X e → Gf φ.w0 φ.H0 w' H' → e.rep Z.K Z.mg w'.I c d → ∀ σ, Z.E σ c d H') : wAs Z.K c i ts Wout Dn cls d σ H' := by
  obtain ⟨b, h1, h2⟩ := hb2
  refine ⟨b, hc _ (look_mem h1) cls r.1, fun hbt a ha => ?_, fun hbf => hW _ _ _ _ (k5 e cls d (w.to I') H' (by rw [hbf] at h2; exact h2) (hA.step g).go r σ)⟩
  rw [if_pos hbt] at h2
  have hA' := hA.step g
  refine hs a cls d e φ (σ.set i (some (.ref a))) (w.to I') H' { nx := fun σ' H' => Dn.nx (σ'.set i none) H', rt := Dn.rt, bk := fun σ' H' => Dn.bk (σ'.set i none) H', ct := fun σ' H' => Dn.ct (σ'.set i none) H' } rt (fun _ => False) (fun _ => False) (fun _ => False) (fun _ => False) hn ⟨hA'.go, by rw [List.length_set]; exact hA'.len, ?_⟩ h2 k1 (fun _ _ _ _ z => z.elim) (fun _ _ _ _ z => z.elim) (fun _ _ _ _ z => z.elim) (fun _ _ _ _ _ z => z.elim)
  exact hold_tgt (cs := [⟨.p (rX Z.K Z.mg a cls d), i, e⟩]) (is := [i]) (fun j hj => set_off (by simpa using hj)) rfl (holdC1 ⟨_, set_at (by rw [hA'.len, hn]; exact hi), rfl, r⟩) hA'.hold
/-- try: return e / except .. as x: a suite that returns -/
theorem sb_tryR {R : Rp γ} {i : Nat} {c : Value} {te : WX → TE} {ts : Addr → Value → Option Addr → TS} {Wout : WX} (tb : List (Str × Bool)) {me : WX → D γ} {mh : Ex → M γ Unit L} (hW : ∀ cls d σ H, Z.E σ cls d H → Wout cls d σ H) (hc : Takn Z c tb) (hi : i < Z.n)
    (hb : ∀ W, SE ⟨Z.K, Z.mg, WE W, Z.n⟩ false Γ (te W) R (me W)) (hs : ∀ a cls d e, SB (Z0 Z) (⟨.p (rX Z.K Z.mg a cls d), i, e⟩ :: Γ) (ts a cls d) (Rf.of R) (fun _ : Unit => []) Γl (mh e)) :
    SB Z Γ (tTry Z.K c i ts Wout fun W => tRet (te W)) (Rf.of R) Γn Γl (fun rt nx bk ct X => ∀ W, me W rt (fun e => ∃ b, tb.lookup e.C = some b ∧ if b = true then mh e rt (fun _ => False) (fun _ => False) (fun _ => False) (fun _ => False) else X e)) := fun φ σ w H Dn rt nx bk ct X hn hA hm k1 k2 k3 k4 k5 =>
  hb (wAs Z.K c i ts Wout Dn) φ σ w H _ rt _ hn hA (hm _) (fun a v I' H' pa s r => k1 a v (w.to I') H' pa (hA.step s).go r) (fun e cls d I' H' xe g r => try_x hW hc hi hs hn hA g r xe k1 k5)
/-- try: x = e / except .. as y: a suite that returns; the rest -/
theorem sb_tryA {i k : Nat} {c : Value} {te : WX → TE} {u : TS} {ts : Addr → Value → Option Addr → TS} {Wout : WX} (tb : List (Str × Bool)) {A : Rp α} {me : WX → D α} {mh : Ex → M γ Unit L} {m : α → M γ S L} (hW : ∀ cls d σ H, Z.E σ cls d H → Wout cls d σ H) (hc : Takn Z c tb) (hi : i < Z.n) (hk : k < Z.n)
    (hb : ∀ W, SE ⟨Z.K, Z.mg, WE W, Z.n⟩ false Γ (te W) A (me W)) (hs : ∀ a cls d e, SB (Z0 Z) (⟨.p (rX Z.K Z.mg a cls d), i, e⟩ :: Γ) (ts a cls d) R (fun _ : Unit => []) Γl (mh e)) (hu : ∀ a, SB Z (⟨.p A, k, a⟩ :: Γ) u R Γn Γl (m a)) :
    SB Z Γ (tSeq (tTry Z.K c i ts Wout fun W => tAsg (te W) (gName k)) u) R Γn Γl (fun rt nx bk ct X => ∀ W, me W (fun a => m a rt nx bk ct X) (fun e => ∃ b, tb.lookup e.C = some b ∧ if b = true then mh e rt (fun _ => False) (fun _ => False) (fun _ => False) (fun _ => False) else X e)) := fun φ σ w H Dn rt nx bk ct X hn hA hm k1 k2 k3 k4 k5 =>
  hb (wAs Z.K c i ts Wout { Dn with nx := u Dn }) φ σ w H _ _ _ hn hA (hm _) (fun a v I' H' pa s r => hu a φ _ (w.to I') H' Dn rt nx bk ct X hn ⟨(hA.step s).go, by rw [List.length_set]; exact (hA.step s).len, hold_tgt (cs := [⟨.p A, k, a⟩]) (is := [k]) (fun j hj => set_off (by simpa using hj)) rfl (holdC1 ⟨_, set_at (by rw [hA.len, hn]; exact hk), r⟩) (hA.step s).hold⟩ pa k1 (kk2 s.i k2) (kk2 s.i k3) (kk2 s.i k4) k5)
    (fun e cls d I' H' xe g r => try_x (Dn := { Dn with nx := u Dn }) hW hc hi hs hn hA g r xe k1 k5)
/-- try: e / except .. as y: a suite that returns; the rest -/
theorem sb_tryE {i : Nat} {c : Value} {te : WX → TE} {u : TS} {ts : Addr → Value → Option Addr → TS} {Wout : WX} (tb : List (Str × Bool)) {A : Rp α} {me : WX → D α} {mh : Ex → M γ Unit L} {m : M γ S L} (hW : ∀ cls d σ H, Z.E σ cls d H → Wout cls d σ H) (hc : Takn Z c tb) (hi : i < Z.n)
    (hb : ∀ W, SE ⟨Z.K, Z.mg, WE W, Z.n⟩ true Γ (te W) A (me W)) (hs : ∀ a cls d e, SB (Z0 Z) (⟨.p (rX Z.K Z.mg a cls d), i, e⟩ :: Γ) (ts a cls d) R (fun _ : Unit => []) Γl (mh e)) (hu : SB Z Γ u R Γn Γl m) :
    SB Z Γ (tSeq (tTry Z.K c i ts Wout fun W => tDrop (te W)) u) R Γn Γl (fun rt nx bk ct X => ∀ W, me W (fun _ => m rt nx bk ct X) (fun e => ∃ b, tb.lookup e.C = some b ∧ if b = true then mh e rt (fun _ => False) (fun _ => False) (fun _ => False) (fun _ => False) else X e)) := fun φ σ w H Dn rt nx bk ct X hn hA hm k1 k2 k3 k4 k5 =>
  hb (wAs Z.K c i ts Wout { Dn with nx := u Dn }) φ σ w H _ _ _ hn hA (hm _) (fun a v I' H' pa s r => hu φ σ (w.to I') H' Dn rt nx bk ct X hn (hA.step s) pa k1 (kk2 s.i k2) (kk2 s.i k3) (kk2 s.i k4) k5)
    (fun e cls d I' H' xe g r => try_x (Dn := { Dn with nx := u Dn }) hW hc hi hs hn hA g r xe k1 k5)
end
/-! ### the error in a suite -/
theorem fld_look {mg : Str → Option Value} {I : Hp} {f : Str} {x : PyData} : ∀ {vs : List (Str × V)} {fs : List (Str × PyData)}, Paired (fun (p : Str × V) (q : Str × PyData) => p.1 = q.1 ∧ Dp K I p.2 q.2) vs fs → fs.lookup f = some x → ∃ v, vs.lookup f = some v ∧ Dp K I v x
  | _, _, .nil, h => nomatch h
  | (n, v) :: r, (m, y) :: t, .cons h p, e => by
    obtain ⟨h1, h2⟩ := h
    have h1' : n = m := h1
    subst h1'
    rw [List.lookup_cons] at e ⊢
    cases q : (f == n) with
    | true =>
      rw [q] at e
      cases e
      exact ⟨v, rfl, h2⟩
    | false =>
      rw [q] at e
      exact fld_look (mg := mg) p e
theorem se_xf {a C : Addr} {cls : Value} {d : Option Addr} {i : Nat} {e : Ex} {cn f : Str} (hg : Z.mg cn = some (.ref C)) (h : look Γ i = some ⟨.p (rX Z.K Z.mg a cls d), i, e⟩) : SE Z j Γ (tXf a cls d C f (tVar i)) (rD Z.K) (fun P _ => e.C = cn ∧ ∃ x, e.fs.lookup f = some x ∧ x.canLay0 = true ∧ P x) := fun φ σ w H Q P X hn hA hm k x => by
  obtain ⟨v, e1, e2, e3⟩ := hA.hold i _ h
  subst e2
  obtain ⟨hc, y, hy, ly, py⟩ := hm
  obtain ⟨q1, dx, vs, q2, q3, q4⟩ := id e3
  obtain ⟨u, hu, du⟩ := fld_look (mg := Z.mg) q4 hy
  have ec : cls = .ref C := by
    rw [hc, hg] at q1
    exact (Option.some.inj q1).symm
  exact ⟨_, e1, rfl, ec, dx, vs, u, q2, hA.go.sub _ _ q3, hu, k y u w.I H py hA.rf ⟨Dp.mn (i_tp j hA.go) du, ly⟩⟩
/-- what isinstance says of errors, by the names of their classes -/
def IsTab (Z : Px) (u : Value) (tb : List (Str × Bool)) : Prop := ∀ p ∈ tb, ∀ cls, Z.mg p.1 = some cls → ∃ D, cls = .ref D ∧ ExcC Z.K D ∧ PySem.W.kitOne Z.K (.ref D) u = some p.2
theorem istab_nil {u : Value} : IsTab Z u [] := fun p hp => nomatch hp
theorem istab_cons {u : Value} {n : Str} {C : Addr} {b : Bool} {tb : List (Str × Bool)} (g : Z.mg n = some (.ref C)) (c : ExcC Z.K C) (h : PySem.W.kitOne Z.K (.ref C) u = some b) (t : IsTab Z u tb) : IsTab Z u ((n, b) :: tb) := fun p hp cls hc => by
  rcases List.mem_cons.mp hp with rfl | hp
  · rw [g] at hc
    cases hc
    exact ⟨C, rfl, c, h⟩
  · exact t p hp cls hc
theorem se_isX {a : Addr} {cls : Value} {d : Option Addr} {i : Nat} {e : Ex} {c : V} {u : Value} (tb : List (Str × Bool)) (hu : ClsV c u) (ht : IsTab Z u tb) (h : look Γ i = some ⟨.p (rX Z.K Z.mg a cls d), i, e⟩) : SE Z j Γ (tCB (rIsX Z.K cls d a) (tCons (tVar i) (tCons (tC c) tNil))) rB (fun P _ => ∃ b, tb.lookup e.C = some b ∧ P b) := fun φ σ w H Q P X hn hA hm k x => by
  obtain ⟨v, e1, e2, e3⟩ := hA.hold i _ h
  subst e2
  obtain ⟨b, hb, pb⟩ := hm
  obtain ⟨q1, dx, vs, q2, q3, q4⟩ := id e3
  obtain ⟨D, rfl, xc, kb⟩ := ht _ (look_mem hb) cls q1
  exact ⟨_, e1, D, dx, vs, c, u, b, rfl, q2, xc, hA.go.sub _ _ q3, rfl, hu, kb, k b (.bl b) w.I H pb hA.rf rfl⟩
/-- isinstance(e, (c, ..)) -/
def tCs : List V → TA
  | [] => tNil
  | v :: r => tCons (tC v) (tCs r)
theorem tCs_run (σ : L2.St) (H : Hp) (Q : List V → Hp → Prop) : ∀ cs : List V, Q cs H → tCs cs σ H Q
  | [], h => h
  | v :: r, h => tCs_run σ H (fun vs H' => Q (v :: vs) H') r h
def anyTab : List (List (Str × Bool)) → Str → Option Bool
  | [], _ => some false
  | t :: r, n => match t.lookup n, anyTab r n with
    | some b, some c => some (b || c)
    | _, _ => none
theorem kitAny_tab {n : Str} {D : Addr} : ∀ {us : List Value} {tbs : List (List (Str × Bool))} {b : Bool}, Paired (fun u tb => IsTab Z u tb) us tbs → Z.mg n = some (.ref D) → anyTab tbs n = some b → PySem.W.kitAny Z.K (.ref D) us = some b
  | _, _, b, .nil, _, h => by
    cases h
    rfl
  | u :: us, t :: tbs, b, .cons h p, g, hb => by
    unfold anyTab at hb
    cases h1 : t.lookup n with
    | none => rw [h1] at hb; cases hb
    | some b1 =>
      cases h2 : anyTab tbs n with
      | none => rw [h1, h2] at hb; cases hb
      | some b2 =>
        rw [h1, h2] at hb
        cases hb
        obtain ⟨D', e1, _, k1⟩ := h _ (look_mem h1) _ g
        cases e1
        have k2 := kitAny_tab p g h2
        exact kitAny_cons k1 (fun e => by subst e; rw [k2]; rfl) (fun e => by subst e; rfl)
theorem anyTab_exc {n : Str} {cls : Value} : ∀ {us : List Value} {tbs : List (List (Str × Bool))} {b : Bool}, Paired (fun u tb => IsTab Z u tb) us tbs → anyTab tbs n = some b → tbs.isEmpty = false → Z.mg n = some cls → ∃ D, cls = .ref D ∧ ExcC Z.K D
  | _, _, b, .nil, _, h, _ => nomatch h
  | u :: us, t :: tbs, b, .cons h p, hb, _, g => by
    unfold anyTab at hb
    cases h1 : t.lookup n with
    | none => rw [h1] at hb; cases hb
    | some b1 =>
      obtain ⟨D, e1, xc, _⟩ := h _ (look_mem h1) _ g
      exact ⟨D, e1, xc⟩
theorem se_isXT {a : Addr} {cls : Value} {d : Option Addr} {i : Nat} {e : Ex} (cs : List V) {us : List Value} (tbs : List (List (Str × Bool))) (hu : Paired ClsV cs us) (ht : Paired (fun u tb => IsTab Z u tb) us tbs) (h : look Γ i = some ⟨.p (rX Z.K Z.mg a cls d), i, e⟩) (hl : Nat.ble cs.length 1000 = true := by rfl) (ne : tbs.isEmpty = false := by rfl) : SE Z j Γ (tCB (rIsXT Z.K cls d a) (tCons (tVar i) (tCons (tTup (tCs cs)) tNil))) rB (fun P _ => ∃ b, anyTab tbs e.C = some b ∧ P b) := fun φ σ w H Q P X hn hA hm k x => by
  obtain ⟨v, e1, e2, e3⟩ := hA.hold i _ h
  subst e2
  obtain ⟨b, hb, pb⟩ := hm
  obtain ⟨q1, dx, vs, q2, q3, q4⟩ := id e3
  obtain ⟨D, rfl, xc⟩ := anyTab_exc ht hb ne q1
  refine ⟨_, e1, tCs_run σ H _ cs ⟨Nat.le_trans (Nat.le_of_ble_eq_true hl) (by decide), fun p hp => ?_⟩⟩
  have g := go_new1 (w := w) hA.go.sub hp (.tup cs)
  exact ⟨D, dx, vs, p, cs, us, b, rfl, q2, xc, (by rw [upd_ne (ne_of_none (hA.go.sub _ _ q3) hp)]; exact hA.go.sub _ _ q3), rfl, upd_same, hu, kitAny_tab ht q1 hb, k b (.bl b) _ _ pb g rfl⟩
end
end Lx
/-! the mathematics of words and spans, without any heap -/
namespace Lw
open PySem PySem.Spec PyProof.Rows L2 TL
open My (Asc)
open Lx (D compD compD_fun Tu find_part M Ex forD)
theorem u65 {k : Nat} {A : Around} (hr : Room k A) : A.units + 65 < cLine := by
  have := hr.un
  omega
theorem iteB {b : Bool} {p q : Prop} (h1 : b = true → p) (h2 : b = false → q) : if b = true then p else q := by
  cases b with
  | true => exact h1 rfl
  | false => exact h2 rfl
def inB (sg z : Str) : Bool := z.cps.toList.all fun c => decide (c ∈ sg.cps.toList)
def ofB (sg : Str) (lo hi : Int) (z : Str) : Bool := (decide (lo ≤ z.length) && decide ((z.length : Int) ≤ hi)) && inB sg z
def nought (z : Str) : Bool := decide (z = "0") || !decide (z.cps.toList.head? = some 48)
def figB (z : Str) : Bool := ofB "0123456789" 1 60 z && nought z
theorem inB_digits {z : Str} (h : inB "0123456789" z = true) : ∀ c ∈ z.cps.toList, 48 ≤ c ∧ c ≤ 57 := fun c hc => by
  have h1 := of_decide_eq_true (List.all_eq_true.mp h c hc)
  have h2 : (Str.ofString "0123456789").cps.toList = [48, 49, 50, 51, 52, 53, 54, 55, 56, 57] := by decide
  rw [show ("0123456789" : Str).cps.toList = _ from h2] at h1
  simp only [List.mem_cons, List.not_mem_nil, or_false] at h1
  omega
theorem fig_int {z : Str} (h : figB z = true) : ∃ n : Nat, intText? z = some (n : Int) ∧ z.length ≤ 60 := by
  unfold figB ofB at h
  simp only [Bool.and_eq_true, decide_eq_true_eq] at h
  obtain ⟨⟨⟨h1, h2⟩, h3⟩, _⟩ := h
  refine ⟨_, intText_digits (inB_digits h3) (fun e => ?_) (by omega), by omega⟩
  have := My.len_tl z
  have e' : z.cps.toList.length = 0 := by rw [e]; rfl
  have h1' : (1 : Int) ≤ (z.length : Int) := h1
  omega
theorem empty_iff (z : Str) : z = Str.ofString "" ↔ z.cps.toList = [] := ⟨fun e => by rw [e]; rfl, fun e => PyProof.Rows.ext_toList (by rw [e]; rfl)⟩
theorem fig_ne {z : Str} (h : figB z = true) : z ≠ Str.ofString "" := fun e => by
  rw [e] at h
  exact absurd h (by decide)
theorem only_eq (sg z : Str) : decide (((z.cps.toList.filter fun c => !decide (c ∈ sg.cps.toList)).map fun c => (⟨#[c]⟩ : Str)) = []) = inB sg z := by
  unfold inB
  rw [← My.all_filter (fun c => decide (c ∈ sg.cps.toList))]
  cases (z.cps.toList.filter fun c => !decide (c ∈ sg.cps.toList)) <;> rfl
/-- the number that figures tell -/
def numT (z : Str) : Option Int := if figB z = true then intText? z else none
def endB (z : Str) : Bool := decide (z = Str.ofString "") || figB z
def endT (z : Str) : Option Int := if z = Str.ofString "" then none else intText? z
def endsB : Option Int → Option Int → Bool
  | none, none => false
  | none, some n => decide (0 < n)
  | some _, none => true
  | some a, some b => decide (a < b)
abbrev SpT := Tu (Option Int × Option Int × Unit)
def spanT (w : Str) : Option SpT :=
  if (Txt.partition w "..").2.1 = Str.ofString "" then none
  else if (endB (Txt.partition w "..").1 && (endB (Txt.partition w "..").2.2 && endsB (endT (Txt.partition w "..").1) (endT (Txt.partition w "..").2.2))) = true then some ⟨endT (Txt.partition w "..").1, endT (Txt.partition w "..").2.2, ()⟩ else none
def spansW (z : Str) : List (Option SpT) := if z = Str.ofString "" then [] else (Txt.split z ",").map spanT
/-- what reading spans gives or raises -/
def rdSp (z : Str) : D (List SpT) := fun P X => (∀ ss : List SpT, spansW z = ss.map some → P ss) ∧ ∀ i : Nat, (spansW z).findIdx? Option.isNone = some i → X ⟨"NoSpan", [("at", .int (i : Int))]⟩
theorem rd_two (z : Str) : (∃ ss : List SpT, spansW z = ss.map some) ∨ ∃ i : Nat, (spansW z).findIdx? Option.isNone = some i := by
  generalize spansW z = ws
  induction ws with
  | nil => exact .inl ⟨[], rfl⟩
  | cons u r ih =>
    cases u with
    | none => exact .inr ⟨0, rfl⟩
    | some s =>
      rcases ih with ⟨ss, e⟩ | ⟨i, e⟩
      · exact .inl ⟨s :: ss, by rw [e]; rfl⟩
      · exact .inr ⟨i + 1, by rw [List.findIdx?_cons, e]; rfl⟩
abbrev atX (n : Str) (i : Int) : Ex := ⟨n, [("at", .int i)]⟩
theorem rd_loop {P : List SpT → Prop} {X : Ex → Prop} : ∀ (ws : List Str) (k : Nat) (acc : List SpT), acc.length + ws.length ≤ 100000 → (∀ ss : List SpT, ws.map spanT = ss.map some → P (acc ++ ss)) → (∀ i : Nat, (ws.map spanT).findIdx? Option.isNone = some i → X (atX "NoSpan" ((k + i : Nat) : Int))) →
    forD (fun (x : Tu (Int × Str × Unit)) (s : List SpT) (rt : List SpT → Prop) (nx bk ct : List SpT → Prop) (X : Ex → Prop) => if (spanT x.r.2.1).isNone = true then X (atX "NoSpan" x.r.1) else ∃ a, spanT x.r.2.1 = some a ∧ s.length < sizeLine ∧ nx (s ++ [a])) P (fun s => P s) X ((ws.zipIdx k).map fun p => Tu.mk ((p.2 : Int), p.1, ())) acc
  | [], k, acc, _, h, _ => by
    have := h [] rfl
    rw [List.append_nil] at this
    exact this
  | w :: r, k, acc, hl, h, hx => by
    show if (spanT w).isNone = true then X (atX "NoSpan" (k : Int)) else ∃ a, spanT w = some a ∧ acc.length < sizeLine ∧ _
    rw [List.length_cons] at hl
    cases hw : spanT w with
    | none =>
      exact ite2 (fun _ => hx 0 (by rw [List.map_cons, hw]; rfl)) (fun e => absurd rfl e)
    | some a =>
      refine iteF ⟨a, rfl, Nat.lt_of_lt_of_le (show acc.length < 100000 by omega) (by decide), ?_⟩
      refine rd_loop r (k + 1) (acc ++ [a]) (by rw [List.length_append]; simp only [List.length_cons, List.length_nil]; omega) (fun ss e => ?_) (fun i e => ?_)
      · rw [List.append_assoc]
        exact h (a :: ss) (by rw [List.map_cons, hw, e]; rfl)
      · have := hx (i + 1) (by rw [List.map_cons, hw, List.findIdx?_cons, e]; rfl)
        rw [show k + 1 + i = k + (i + 1) by omega]
        exact this
theorem forD_inv {α γ S : Type} {body : α → S → M γ S S} {rt : γ → Prop} {nx : S → Prop} {X : Ex → Prop} (I : S → Prop) : ∀ {xs : List α} {s : S}, I s → (∀ x ∈ xs, ∀ s, I s → ∀ k : S → Prop, (∀ s', I s' → k s') → body x s rt k nx k X) → (∀ s, I s → nx s) → forD body rt nx X xs s
  | [], s, h, _, hn => hn s h
  | x :: xs, s, h, hb, hn => hb x (List.mem_cons_self ..) s h _ fun s' h' => forD_inv I h' (fun y hy => hb y (List.mem_cons_of_mem _ hy)) hn
theorem ixN_in {n : Nat} {k : Int} (h : 0 ≤ k ∧ k < n) : ixN n k = some k.toNat := by
  unfold ixN
  rw [if_pos h.1, if_pos h.2]
theorem set_all {α : Type} {p : α → Prop} {xs : List α} {n : Nat} {a : α} (h : ∀ x ∈ xs, p x) (ha : p a) : ∀ x ∈ xs.set n a, p x := fun x hx => by
  rcases List.mem_or_eq_of_mem_set hx with q | q
  · exact h x q
  · rw [q]
    exact ha
/-- texts of at most m signs each, put together -/
theorem join_b {y : Str} {xs : List Str} {n m k : Nat} (hl : xs.length ≤ n) (h : ∀ z ∈ xs, z.length ≤ m) (hk : n * m + n * y.length ≤ k) : (xs.map (·.length)).sum + xs.length * y.length ≤ k := by
  have h1 := My.sum_le xs h
  have h2 := Nat.mul_le_mul_right m hl
  have h3 := Nat.mul_le_mul_right y.length hl
  omega
theorem ends_fact (z : Str) : (z = Str.ofString "" ∧ numT z = none ∧ endB z = true ∧ endT z = none) ∨ (z ≠ Str.ofString "" ∧ ∃ n : Nat, numT z = some (n : Int) ∧ endB z = true ∧ endT z = some (n : Int)) ∨ (z ≠ Str.ofString "" ∧ numT z = none ∧ endB z = false) := by
  unfold numT endB endT
  by_cases e : z = Str.ofString ""
  · have hf : figB z = false := by
      cases h : figB z with
      | false => rfl
      | true => exact absurd e (fig_ne h)
    exact .inl ⟨e, by rw [hf]; rfl, by rw [decide_eq_true e]; rfl, if_pos e⟩
  · cases h : figB z with
    | false => exact .inr (.inr ⟨e, rfl, by rw [decide_eq_false e]; rfl⟩)
    | true =>
      obtain ⟨n, hn, _⟩ := fig_int h
      exact .inr (.inl ⟨e, n, by rw [if_pos rfl]; exact hn, by rw [decide_eq_false e]; rfl, by rw [if_neg e]; exact hn⟩)
theorem span_found {z lo hi : Str} {d : Str} (hd : d ≠ Str.ofString "") (h : Txt.partition z ".." = (lo, d, hi)) : spanT z = if (endB lo && (endB hi && endsB (endT lo) (endT hi))) = true then some ⟨endT lo, endT hi, ()⟩ else none := by
  unfold spanT
  rw [h]
  exact if_neg hd
/-- figures of at most sixty signs: the number, or none -/
theorem num_long {z : Str} (h : (60 : Int) < (z.length : Int)) : numT z = none := by
  have hf : figB z = false := by
    cases e : figB z with
    | false => rfl
    | true =>
      obtain ⟨_, _, hl⟩ := fig_int e
      omega
  unfold numT
  rw [hf]
  rfl
theorem num_other {z : Str} (h : inB (Str.ofString "0123456789") z = false) : numT z = none := by
  have hf : figB z = false := by
    unfold figB ofB
    rw [show inB "0123456789" z = false from h, Bool.and_false]
    rfl
  unfold numT
  rw [hf]
  rfl
theorem sign_eq (c : Nat) (y : Str) (d : Nat) (hy : y.cps.toList = [d]) : ((⟨#[c]⟩ : Str) = y) ↔ c = d := ⟨fun q => by
    have : (⟨#[c]⟩ : Str).cps.toList = y.cps.toList := by rw [q]
    rw [hy] at this
    simpa using this, fun q => PyProof.Rows.ext_toList (by rw [hy, q])⟩
theorem num_rest {z : Str} {c : Nat} {r : List Nat} (hc : z.cps.toList = c :: r) (h1 : ¬ (60 : Int) < (z.length : Int)) (h2 : inB (Str.ofString "0123456789") z = true) : figB z = (decide (z = Str.ofString "0") || !decide (c = 48)) := by
  have hl := My.len_tl z
  rw [hc, List.length_cons] at hl
  unfold figB ofB nought
  rw [show inB "0123456789" z = true from h2, hc, decide_eq_true (show (1 : Int) ≤ (z.length : Int) by omega), decide_eq_true (show (z.length : Int) ≤ 60 by omega)]
  show (true && (decide (z = "0") || !decide (some c = some 48))) = _
  rw [Bool.true_and]
  congr 2
  exact decide_eq_decide.mpr ⟨fun q => Option.some.inj q, fun q => congrArg some q⟩
theorem idx_none {α : Type} [DecidableEq α] : ∀ (ws : List (Option α)) (i : Nat), ws.findIdx? Option.isNone = some i → none ∈ ws ∧ @List.idxOf _ instBEqOfDecidableEq none ws = i
  | [], i, h => nomatch h
  | u :: r, i, h => by
    rw [List.findIdx?_cons] at h
    show none ∈ u :: r ∧ List.findIdx (fun y => @BEq.beq _ instBEqOfDecidableEq y none) (u :: r) = i
    rw [List.findIdx_cons]
    cases u with
    | none =>
      cases h
      exact ⟨List.mem_cons_self .., rfl⟩
    | some d =>
      obtain ⟨k, hk, rfl⟩ := Option.map_eq_some_iff.mp h
      obtain ⟨h1, h2⟩ := idx_none r k hk
      refine ⟨List.mem_cons_of_mem _ h1, ?_⟩
      have h2' : List.findIdx (fun y => @BEq.beq _ instBEqOfDecidableEq y none) r = k := h2
      rw [h2']
      rfl
theorem none_not {α : Type} (ys : List α) : (none : Option α) ∉ ys.map some := fun h => by
  obtain ⟨y, _, e⟩ := List.mem_map.mp h
  cases e
theorem find_none {α : Type} (ys : List α) : (ys.map some).findIdx? Option.isNone = none := by
  rw [List.findIdx?_eq_none_iff]
  intro x hx
  obtain ⟨y, _, rfl⟩ := List.mem_map.mp hx
  rfl
theorem filt_some {α : Type} (ys : List α) : (ys.map some).filterMap id = ys := by
  rw [List.filterMap_map]
  exact List.filterMap_some
def encS (s : SpT) : PyData := .tuple [Lx.encO PyData.int s.r.1, Lx.encO PyData.int s.r.2.1]
theorem layO (o : Option Int) : (Lx.encO PyData.int o).canLay0 = true ∧ (Lx.encO PyData.int o).depth = 0 := by cases o <;> exact ⟨rfl, rfl⟩
theorem layS (s : SpT) : (encS s).canLay0 = true ∧ (encS s).depth = 1 := by
  refine ⟨?_, ?_⟩
  · simp [encS, PyData.canLay0, PyData.canLayAll0, layO]
  · simp [encS, PyData.depth, PyData.depthAll, layO]
theorem laySs (ss : List SpT) : PyData.canLayAll0 (ss.map encS) = true ∧ PyData.depthAll (ss.map encS) ≤ 1 := by
  induction ss with
  | nil => exact ⟨rfl, Nat.zero_le _⟩
  | cons s r ih =>
    refine ⟨?_, ?_⟩
    · simp [PyData.canLayAll0, layS, ih.1]
    · simp [PyData.depthAll, layS, ih.2]
end Lw
namespace Lx
open PySem PySem.Spec PyProof.Rows L2 TL
open My (Asc)
section
variable {Z : Px} {j : Bool} {Γ : List Cell} {α β γ δ : Type} {K : PySem.W.Frag}
/-! ### two numbers -/
theorem ro_max2 : ROA (fun xs H Q => ∃ i j, xs = [.int i, .int j] ∧ Q (.int (if j > i then j else i)) H) (rsC rI (rsC rI rs0)) rI (fun b => D.pure (max b.1 b.2.1)) := fun J I H vs b Q P X sj s ⟨v, r, e, e1, v2, r2, e2, e3, h4⟩ hk q => by
  cases (show r2 = [] from h4)
  cases (show v = .int b.1 from e1)
  cases (show v2 = .int b.2.1 from e3)
  subst e2
  refine ⟨b.1, b.2.1, e, q _ _ I H hk (Gw.refl (sj.trans s)) ?_⟩
  show V.int _ = V.int _
  congr 1
  split <;> omega
theorem ro_min2 : ROA (fun xs H Q => ∃ i j, xs = [.int i, .int j] ∧ Q (.int (if j < i then j else i)) H) (rsC rI (rsC rI rs0)) rI (fun b => D.pure (min b.1 b.2.1)) := fun J I H vs b Q P X sj s ⟨v, r, e, e1, v2, r2, e2, e3, h4⟩ hk q => by
  cases (show r2 = [] from h4)
  cases (show v = .int b.1 from e1)
  cases (show v2 = .int b.2.1 from e3)
  subst e2
  refine ⟨b.1, b.2.1, e, q _ _ I H hk (Gw.refl (sj.trans s)) ?_⟩
  show V.int _ = V.int _
  congr 1
  split <;> omega
/-! ### a <= b < c -/
theorem se_chain {c1 c2 : Int → Int → Bool} {ta tb tc : TE} {ma mb mc : D Int} (ha : SE Z true Γ ta rI ma) (hb : SE Z true Γ tb rI mb) (hc : SE Z true Γ tc rI mc) : SE Z j Γ (tChain (rI0 fun i k => .bl (c1 i k)) (rI0 fun i k => .bl (c2 i k)) ta tb tc) rB (fun P X => ma (fun a => mb (fun b => if c1 a b = true then mc (fun c => P (c2 b c)) X else P false) X) X) := fun φ σ w H Q P X hn hA hm k x =>
  ha φ σ w H _ _ X hn hA hm (fun a v I1 H1 pa s1 ra => hb φ σ (w.to I1) H1 _ _ X hn (hA.step s1) pa (fun b u I2 H2 pb s2 rb => ⟨a, b, ra, rb, c1 a b, rfl, by
    cases e : c1 a b with
    | true =>
      rw [e] at pb
      exact hc φ σ (w.to I2) H2 _ _ X hn (hA.step (s1.trans s2)) pb (fun c y I3 H3 pc s3 rc => ⟨b, c, rb, rc, k _ _ I3 H3 pc ((s1.trans s2).trans s3) rfl⟩) (xg (s1.trans s2) x)
    | false =>
      rw [e] at pb
      exact k false _ I2 H2 pb (s1.trans s2) rfl⟩) (xg s1 x)) x
/-! ### sorted(xs) -/
def rSortAny (K : PySem.W.Frag) : List V → Hp → VK → Prop := fun vs H Q => ∃ (B : Type) (val : B → V) (enc : B → PyData), My.rSortB K val enc vs H Q
theorem cr_sortAny {X : Cx} (K : PySem.W.Frag) (h : X.K = K) (hu : X.A.units + 64 < cLine) : CallR X (.builtin "sorted") (rSortAny K) := by
  subst h
  intro pins s σ H vs us Q I r h
  obtain ⟨B, val, enc, h⟩ := h
  exact My.cr_sortB val enc hu pins s σ H vs us Q I r h
def sortD (enc : α → PyData) (xs : List α) : List α := xs.mergeSort (PySem.W.dataLe false enc)
theorem sortD_perm (enc : α → PyData) (xs : List α) : (sortD enc xs).Perm xs := List.mergeSort_perm ..
theorem sortD_sorted (enc : α → PyData) (xs : List α) : (sortD enc xs).Pairwise fun a b => PySem.W.dataLe false enc a b = true := PySem.W.sort_pairwise (PySem.W.sortLe_total _ _ _) xs
class SrtD (K : PySem.W.Frag) {α : Type} (A : Rp α) [d : DatO K A] : Prop where
  al : ∀ a b, PySem.W.alike (d.enc a) (d.enc b) = true
  so : (∀ a, ∃ x r, d.enc a = .tuple (x :: r)) ∨ (∀ a, d.enc a ≠ .none ∧ ∀ xs, d.enc a ≠ .tuple xs)
instance : SrtD K rI := ⟨fun a b => rfl, .inr fun a => ⟨(fun e => nomatch e), (fun xs e => nomatch e)⟩⟩
instance : SrtD K rS := ⟨fun a b => rfl, .inr fun a => ⟨(fun e => nomatch e), (fun xs e => nomatch e)⟩⟩
instance srt_pair {β : Type} {A : Rp α} {B : Rp β} [d : DatO K A] [d2 : DatO K B] [s : SrtD K A] [s2 : SrtD K B] : SrtD K (rTu K (rsC A (rsC B rs0))) := ⟨fun a b => by
    show (PySem.W.alike (d.enc a.r.1) (d.enc b.r.1) && (PySem.W.alike (d2.enc a.r.2.1) (d2.enc b.r.2.1) && PySem.W.alikeAll [] [])) = true
    rw [s.al, s2.al]
    rfl, .inl fun a => ⟨_, _, rfl⟩⟩
theorem zip_of {R : V → α → Prop} : ∀ {us : List V} {xs : List α}, Paired R us xs → ∃ bs : List (V × α), bs.map (·.1) = us ∧ bs.map (·.2) = xs ∧ ∀ b ∈ bs, R b.1 b.2
  | _, _, .nil => ⟨[], rfl, rfl, fun _ h => nomatch h⟩
  | u :: us, x :: xs, .cons h t => by
    obtain ⟨bs, e1, e2, hb⟩ := zip_of t
    refine ⟨(u, x) :: bs, by rw [List.map_cons, e1], by rw [List.map_cons, e2], fun b hb' => ?_⟩
    rcases List.mem_cons.mp hb' with rfl | hb'
    · exact h
    · exact hb b hb'
theorem of_zip {R : V → α → Prop} : ∀ {bs : List (V × α)}, (∀ b ∈ bs, R b.1 b.2) → Paired R (bs.map (·.1)) (bs.map (·.2))
  | [], _ => .nil
  | b :: r, h => .cons (h b (List.mem_cons_self ..)) (of_zip fun c hc => h c (List.mem_cons_of_mem _ hc))
theorem rn_sorted {A : Rp α} [d : DatO K A] [s : SrtD K A] (l : d.dep ≤ 60 := by exact Nat.le_of_ble_eq_true rfl) : ROAn (rSortAny K) (rsC (rL A) rs0) A (fun b => D.pure (sortD d.enc b.1)) := fun J I H vs b Q P X sj sh ⟨v, r, e, ⟨p, us, e1, e2, l1, pr⟩, h2⟩ hk q => by
  cases (show r = [] from h2)
  subst e1
  obtain ⟨bs, f1, f2, hb⟩ := zip_of pr
  have es : (My.sortB (fun b : V × α => d.enc b.2) bs).map (·.2) = sortD d.enc b.1 := by
    rw [← f2]
    exact List.map_mergeSort (fun a _ b _ => rfl)
  refine ⟨V × α, (·.1), fun b => d.enc b.2, p, bs, e, by rw [f1]; exact SqL.of (sh _ _ e2), fun b' hb' => Dp.mn (sj.trans sh) (d.dp (Same.refl _) (hb b' hb')), PySem.W.AllAlike.of (fun b b' => s.al _ _), ?_, fun b' _ => Nat.le_trans (d.dle _) l, fun n hn => ?_⟩
  · rcases s.so with h | h
    · exact PySem.W.Sortable.tuples fun b => h b.2
    · exact PySem.W.Sortable.others fun b => h b.2
  · have pm := My.sortB_perm (fun b : V × α => d.enc b.2) bs
    refine q (sortD d.enc b.1) _ n hk hn (by rw [(sortD_perm d.enc b.1).length_eq]; exact l1) ?_
    rw [← es]
    exact of_zip fun c hc => hb c (pm.mem_iff.mp hc)
theorem prd_someO {A : Rp α} (c : ∀ (J I : Hp) v a, A.top J I v a → (rO A).top J I v (some a)) {I : Hp} : ∀ {vs : List V} {xs : List α}, Paired (A.rep I) vs xs → Paired ((rO A).rep I) vs (xs.map some)
  | _, _, .nil => .nil
  | _, _, .cons h t => .cons (c _ _ _ _ h) (prd_someO c t)
theorem SE.someAll {t : TE} {A : Rp α} {m : D (List α)} (c : ∀ (J I : Hp) v a, A.top J I v a → (rO A).top J I v (some a)) (h : SE Z j Γ t (rL A) m) : SE Z j Γ t (rL (rO A)) (D.bind m fun xs => D.pure (xs.map some)) := SE.map (R := rL A) (R' := rL (rO A)) (fun J I v xs r => by
  obtain ⟨p, vs, e, h1, l, pr⟩ := r
  exact ⟨p, vs, e, h1, by rw [List.length_map]; exact l, prd_someO c pr⟩) h
/-! ### one of two kinds -/
def rE (A : Rp α) (B : Rp β) : Rp (α ⊕ β) := ⟨fun J I v x => match x with | .inl a => A.top J I v a | .inr b => B.top J I v b, fun {J J' I I' v x} s t h => by
  cases x with
  | inl a => exact A.mono s t h
  | inr b => exact B.mono s t h⟩
theorem co_inl {A : Rp α} {B : Rp β} : ∀ (J I : Hp) v a, A.top J I v a → (rE A B).top J I v (.inl a) := fun _ _ _ _ h => h
theorem co_inr {A : Rp α} {B : Rp β} : ∀ (J I : Hp) v a, B.top J I v a → (rE A B).top J I v (.inr a) := fun _ _ _ _ h => h
theorem SE.getL {t : TE} {A : Rp α} {B : Rp β} {m : D (α ⊕ β)} (h : SE Z j Γ t (rE A B) m) : SE Z j Γ t A (D.bind m fun x => fun P _ => ∃ a, x = .inl a ∧ P a) := SE.cast (fun J I v o P X r hp => by
  obtain ⟨a, rfl, pa⟩ := hp
  exact ⟨a, pa, r⟩) h
theorem SE.getR {t : TE} {A : Rp α} {B : Rp β} {m : D (α ⊕ β)} (h : SE Z j Γ t (rE A B) m) : SE Z j Γ t B (D.bind m fun x => fun P _ => ∃ a, x = .inr a ∧ P a) := SE.cast (fun J I v o P X r hp => by
  obtain ⟨a, rfl, pa⟩ := hp
  exact ⟨a, pa, r⟩) h
def encE (f : α → PyData) (g : β → PyData) : α ⊕ β → PyData
  | .inl a => f a
  | .inr b => g b
instance {A : Rp α} {B : Rp β} [d : ToD K A] [d2 : ToD K B] : ToD K (rE A B) := ⟨encE d.enc d2.enc, fun {J I v x} s h => by
    cases x with
    | inl a => exact d.dp s h
    | inr b => exact d2.dp s h, fun {J I v x} h => by
    cases x with
    | inl a => exact d.lay h
    | inr b => exact d2.lay h⟩
/-- pairs of numbers as spans -/
def sp2 (p : Tu (Int × Int × Unit)) : Tu (Option Int × Option Int × Unit) := ⟨some p.r.1, some p.r.2.1, ()⟩
theorem co_sp2 {J I : Hp} {v : V} {p : Tu (Int × Int × Unit)} (h : (rTu K (rsC rI (rsC rI rs0))).top J I v p) : (rTu K (rsC (rO rI) (rsC (rO rI) rs0))).top J I v (sp2 p) := by
  obtain ⟨a, vs, e, q, v1, r1, e1, h1, v2, r2, e2, h2, h3⟩ := h
  exact ⟨a, vs, e, q, v1, r1, e1, co_some_int _ _ _ _ h1, v2, r2, e2, co_some_int _ _ _ _ h2, h3⟩
theorem prd_sp2 {I : Hp} : ∀ {vs : List V} {xs : List (Tu (Int × Int × Unit))}, Paired ((rTu K (rsC rI (rsC rI rs0))).rep I) vs xs → Paired ((rTu K (rsC (rO rI) (rsC (rO rI) rs0))).rep I) vs (xs.map sp2)
  | _, _, .nil => .nil
  | _, _, .cons h t => .cons (co_sp2 h) (prd_sp2 t)
theorem co_q2 : ∀ (J I : Hp) v (a : List (Tu (Int × Int × Unit))), (rL (rTu K (rsC rI (rsC rI rs0)))).top J I v a → (rQ K (rTu K (rsC (rO rI) (rsC (rO rI) rs0)))).top J I v ⟨a.map sp2⟩ := fun J I v a ⟨p, vs, e, h, l, pr⟩ => ⟨p, vs, e, .inl h, by rw [List.length_map]; exact l, prd_sp2 pr⟩
/-! ### truth of texts and numbers -/
theorem st_truthS {ta : TE} {m : D Str} (h : SE Z true Γ ta rS m) : ST Z Γ (fun σ H Q => ta σ H fun x H' => ∃ k, TruV Z.K x H' k ∧ Q k H') (D.bind m fun z => D.pure ((z.length : Int) != 0)) := fun φ σ w H Q P X hn hA hm k x =>
  h φ σ w H _ _ X hn hA hm (fun a v I' H' pa s h1 => ⟨_, by rw [h1.1]; exact ⟨h1.2.2, rfl⟩, k _ I' H' pa s⟩) x
theorem st_truthI {ta : TE} {m : D Int} (h : SE Z true Γ ta rI m) : ST Z Γ (fun σ H Q => ta σ H fun x H' => ∃ k, TruV Z.K x H' k ∧ Q k H') (D.bind m fun z => D.pure (z != 0)) := fun φ σ w H Q P X hn hA hm k x =>
  h φ σ w H _ _ X hn hA hm (fun a v I' H' pa s h1 => ⟨_, by rw [show v = .int a from h1]; exact rfl, k _ I' H' pa s⟩) x
/-! ### list or tuple -/
theorem pi_seqK {X : Cx} (K : PySem.W.Frag) {tg e : Expr} {t : TE} (h : X.K = K) (he : PE X e t) : PI X tg e (My.iSeq K t) := h ▸ My.pi_seq he
theorem si_seq {tl : TE} {R : Rp α} {m : D (Sq α)} (h : SE Z j Γ tl (rQ Z.K R) m) : SI Z j Γ (My.iSeq Z.K tl) R (D.bind m fun s => D.pure s.l) := fun φ σ w H Rr P X hn hA hm k x =>
  h φ σ w H _ _ X hn hA hm (fun xs v I' H' pa s ⟨a, vs, e, hv, hl, pr⟩ => ⟨a, e, by
    rcases hv with hv | hv
    · exact .inl ⟨⟨vs, SqL.of (tp_sub s.sub _ _ hv)⟩, k xs.l _ I' H' pa s hl (wk_list (fun s1 => SqL.of (s1 _ _ hv)) pr)⟩
    · exact .inr ⟨⟨vs, Same.seqT (tp_sub s.sub) hv⟩, k xs.l _ I' H' pa s hl (wk_tup (fun s1 => Same.seqT s1 hv) pr)⟩⟩) x
theorem ixSK {X : Cx} (K : PySem.W.Frag) (h : X.K = K) : IxR X (rIx K) := h ▸ ix_seq
theorem ro_ixQ {A : Rp α} : RO2 (rIx K) (rQ K A) rI A (fun xs i => atD xs.l i) := fun J I H v u a b Q P X sj s ha hb hk q => by
  obtain ⟨p, vs, rfl, e, l, pr⟩ := ha
  obtain ⟨c, ec, pc⟩ := hk
  obtain ⟨x, ex, rx⟩ := atI_of pr ec
  cases (show u = .int b from hb)
  rcases e with e | e
  · exact .inl ⟨p, vs, b, x, rfl, rfl, SqL.of (s _ _ e), ex, q _ _ I H pc (Gw.refl (sj.trans s)) rx⟩
  · exact .inr (.inl ⟨p, vs, b, x, rfl, rfl, Same.seqT s e, ex, q _ _ I H pc (Gw.refl (sj.trans s)) rx⟩)
theorem ro_lenQ {A : Rp α} : ROA (fun xs H Q => ∃ p ys, xs = [.ref p] ∧ (SqL K H p ys ∨ SqT K H p ys) ∧ Q (.int ys.length) H) (rsC (rQ K A) rs0) rI (fun b => D.pure (b.1.l.length : Int)) := fun J I H vs b Q P X sj s ⟨v, r, e, ⟨p, us, e1, e2, l, pr⟩, h2⟩ hk q => by
  cases (show r = [] from h2)
  subst e1
  exact ⟨p, us, e, e2.elim (fun h => .inl (SqL.of (s _ _ h))) (fun h => .inr (Same.seqT s h)), q _ _ I H hk (Gw.refl (sj.trans s)) (by rw [prd_len pr]; rfl)⟩
/-! ### statements -/
section
variable {S L S' : Type} {R : Rf γ} {Γn : S → List Cell} {Γl : L → List Cell}
theorem sb_aug {i : Nat} {f : Int → Int → Int} {te : TE} {u : TS} {a : Int} {me : D Int} {m : Int → M γ S L} (hl : look Γ i = some ⟨.p rI, i, a⟩) (hi : i < Z.n) (he : SE Z true Γ te rI me) (hu : ∀ b, SB Z (⟨.p rI, i, b⟩ :: Γ) u R Γn Γl (m b)) :
    SB Z Γ (tSeq (tAug i te (ipI f)) u) R Γn Γl (fun rt nx bk ct X => me (fun y => m (f a y) rt nx bk ct X) X) := fun φ σ w H Dn rt nx bk ct X hn hA hm k1 k2 k3 k4 k5 => by
  obtain ⟨v, e, r⟩ := hA.hold i _ hl
  cases (show v = .int a from r)
  refine ⟨_, e, he φ σ w H _ _ X hn hA hm (fun y u' I' H' py s ry => ?_) (kx hA.go k5)⟩
  cases (show u' = .int y from ry)
  exact ⟨a, y, rfl, rfl, hu _ φ _ (w.to I') H' Dn rt nx bk ct X hn ⟨(hA.step s).go, by rw [List.length_set]; exact (hA.step s).len, hold_tgt (cs := [⟨.p rI, i, f a y⟩]) (is := [i]) (fun j hj => set_off (by simpa using hj)) rfl (holdC1 ⟨_, set_at (by rw [hA.len, hn]; exact hi), rfl⟩) (hA.step s).hold⟩ py k1 (kk2 s.i k2) (kk2 s.i k3) (kk2 s.i k4) k5⟩
theorem sb_while {c : TT} {tb r : TS} {test : S' → D Bool} {body : S' → M γ S' S'} {m : S' → M γ S L} (ρ : S' → List Cell) {s0 : S'} (ok : RowOk Γ (ρ s0)) (hc : ∀ s, ST Z (ρ s ++ Γ) c (test s)) (hb : ∀ s, SB Z (ρ s ++ Γ) tb R (fun s => ρ s ++ Γ) (fun s => ρ s ++ Γ) (body s)) (hr : ∀ s, SB Z (ρ s ++ Γ) r R Γn Γl (m s)) :
    SB Z Γ (tSeq (tWhile c tb) r) R Γn Γl (fun rt nx bk ct X => ∃ n, whileD test body rt (fun s => m s rt nx bk ct X) X n s0) := fun φ σ w H Dn rt nx bk ct X hn hA hm k1 k2 k3 k4 k5 => by
  obtain ⟨n0, hw⟩ := hm
  refine ⟨fun n σ' H' => ∃ w' s, At φ (ρ s ++ Γ) σ' w' H' ∧ Same w.I w'.I ∧ whileD test body rt (fun s => m s rt nx bk ct X) X n s, ⟨n0, w, s0, ⟨hA.go, hA.len, row_hold (k := 0) rfl rfl ok hA.hold⟩, Same.refl _, hw⟩, ?_⟩
  rintro n σ' H' ⟨w', s, hA', s', pf⟩
  cases n with
  | zero => exact pf.elim
  | succ n =>
    refine hc s φ σ' w' H' _ _ X hn hA' pf (fun b I' H2 pb g => ?_) (kx hA'.go k5)
    have hA2 := hA'.step g
    have s2 : Same w.I I' := s'.trans g.i
    cases b with
    | false => exact hr s φ σ' (w'.to I') H2 Dn rt nx bk ct X hn hA2 pb k1 (kk2 s2 k2) (kk2 s2 k3) (kk2 s2 k4) k5
    | true =>
      refine ⟨fun σ3 H3 => ∃ w3 s3, At φ (ρ s3 ++ Γ) σ3 w3 H3 ∧ Same w.I w3.I ∧ whileD test body rt (fun s => m s rt nx bk ct X) X n s3, fun σ3 H3 ⟨w3, s3, a1, a2, a3⟩ => ⟨n, Nat.lt_succ_self n, w3, s3, a1, a2, a3⟩, ?_⟩
      exact hb s φ σ' (w'.to I') H2 _ rt _ _ _ X hn hA2 pb k1 (fun s3 σ3 w3 H3 p3 hA3 z3 => ⟨w3, s3, hA3, s2.trans z3, p3⟩) (fun s3 σ3 w3 H3 p3 hA3 z3 => hr s3 φ σ3 w3 H3 Dn rt nx bk ct X hn hA3 p3 k1 (kk2 (s2.trans z3) k2) (kk2 (s2.trans z3) k3) (kk2 (s2.trans z3) k4) k5) (fun s3 σ3 w3 H3 p3 hA3 z3 => ⟨w3, s3, hA3, s2.trans z3, p3⟩) k5
end
end
end Lx
/-! the mathematics of stretches and parts, without any heap -/
namespace Ls
open PySem PySem.Spec PyProof.Rows L2 TL
open My (Asc ok_asc asc_mk perm_sorted_eq mk_len)
abbrev Spn := Option Int × Option Int
abbrev Prt := Int × Str
def iv (p : Int × Int) : Spn := (some p.1, some p.2)
def tb (p : Prt) : Int × Int := (p.1, p.1 + (p.2.length : Int))
def unt (a : Int) (size : Int) : List (Int × Int) → List (Int × Int)
  | [] => if a < size then [(a, size)] else []
  | u :: r => (if a < u.1 then [(a, u.1)] else []) ++ unt u.2 size r
def mx (i j : Int) : Int := if j > i then j else i
def mn (i j : Int) : Int := if j < i then j else i
def hit (k : Nat) (a b : Int × Int) : List (Nat × Int × Int) := if mx a.1 b.1 < mn a.2 b.2 then [(k, mx a.1 b.1, mn a.2 b.2)] else []
def meetF : Nat → List (Int × Int) → List (Int × Int) → Nat → List (Nat × Int × Int)
  | 0, _, _, _ => []
  | _ + 1, [], _, _ => []
  | _ + 1, _ :: _, [], _ => []
  | n + 1, a :: A, b :: B, k => hit k a b ++ (if a.2 ≤ b.2 then meetF n A (b :: B) (k + 1) else meetF n (a :: A) B k)
def meet (A B : List (Int × Int)) : List (Nat × Int × Int) := meetF (A.length + B.length) A B 0
theorem meetF_nil1 (n : Nat) (B : List (Int × Int)) (k : Nat) : meetF n [] B k = [] := by cases n <;> rfl
theorem meetF_nil2 (n : Nat) (A : List (Int × Int)) (k : Nat) : meetF n A [] k = [] := by
  cases n with
  | zero => rfl
  | succ n => cases A <;> rfl
theorem meetF_cons (n : Nat) (a b : Int × Int) (A B : List (Int × Int)) (k : Nat) : meetF (n + 1) (a :: A) (b :: B) k = hit k a b ++ (if a.2 ≤ b.2 then meetF n A (b :: B) (k + 1) else meetF n (a :: A) B k) := rfl
theorem meetF_len : ∀ (n : Nat) (A B : List (Int × Int)) (k : Nat), (meetF n A B k).length ≤ n
  | 0, _, _, _ => Nat.le_refl _
  | n + 1, [], _, _ => Nat.zero_le _
  | n + 1, _ :: _, [], _ => Nat.zero_le _
  | n + 1, a :: A, b :: B, k => by
    rw [meetF_cons, List.length_append]
    have h1 : (hit k a b).length ≤ 1 := by
      unfold hit
      split <;> simp
    have h2 := meetF_len n A (b :: B) (k + 1)
    have h3 := meetF_len n (a :: A) B k
    split <;> omega
def can (l : List (Int × Int)) : Prop := (l.Pairwise fun u v => u.2 < v.1) ∧ ∀ u ∈ l, u.1 < u.2
def cov (l : List (Int × Int)) (x : Int) : Prop := ∃ u ∈ l, u.1 ≤ x ∧ x < u.2
theorem cov_nil {x : Int} : ¬ cov [] x := fun ⟨_, h, _⟩ => nomatch h
theorem cov_cons {p : Int × Int} {l : List (Int × Int)} {x : Int} : cov (p :: l) x ↔ (p.1 ≤ x ∧ x < p.2) ∨ cov l x := by
  constructor
  · rintro ⟨u, hu, h⟩
    rcases List.mem_cons.mp hu with rfl | hu
    · exact .inl h
    · exact .inr ⟨u, hu, h⟩
  · rintro (h | ⟨u, hu, h⟩)
    · exact ⟨p, List.mem_cons_self .., h⟩
    · exact ⟨u, List.mem_cons_of_mem _ hu, h⟩
theorem cov_app {l m : List (Int × Int)} {x : Int} : cov (l ++ m) x ↔ cov l x ∨ cov m x := by
  constructor
  · rintro ⟨u, hu, h⟩
    rcases List.mem_append.mp hu with hu | hu
    · exact .inl ⟨u, hu, h⟩
    · exact .inr ⟨u, hu, h⟩
  · rintro (⟨u, hu, h⟩ | ⟨u, hu, h⟩)
    · exact ⟨u, List.mem_append.mpr (.inl hu), h⟩
    · exact ⟨u, List.mem_append.mpr (.inr hu), h⟩
theorem can_cons {u : Int × Int} {l : List (Int × Int)} (h : can (u :: l)) : u.1 < u.2 ∧ can l ∧ ∀ v ∈ l, u.2 < v.1 :=
  ⟨h.2 u (List.mem_cons_self ..), ⟨(List.pairwise_cons.mp h.1).2, fun v hv => h.2 v (List.mem_cons_of_mem _ hv)⟩, (List.pairwise_cons.mp h.1).1⟩
theorem can_mk {u : Int × Int} {l : List (Int × Int)} (h1 : u.1 < u.2) (h2 : can l) (h3 : ∀ v ∈ l, u.2 < v.1) : can (u :: l) :=
  ⟨List.pairwise_cons.mpr ⟨h3, h2.1⟩, fun v hv => by
    rcases List.mem_cons.mp hv with rfl | hv
    · exact h1
    · exact h2.2 v hv⟩
theorem can_eq : ∀ (l m : List (Int × Int)), can l → can m → (∀ x, cov l x ↔ cov m x) → l = m
  | [], [], _, _, _ => rfl
  | [], v :: m, _, hm, h => by
    have hv := (can_cons hm).1
    exact absurd ((h v.1).mpr ⟨v, List.mem_cons_self .., Int.le_refl _, hv⟩) cov_nil
  | u :: l, [], hl, _, h => by
    have hu := (can_cons hl).1
    exact absurd ((h u.1).mp ⟨u, List.mem_cons_self .., Int.le_refl _, hu⟩) cov_nil
  | u :: l, v :: m, hl, hm, h => by
    obtain ⟨u1, u2, u3⟩ := can_cons hl
    obtain ⟨v1, v2, v3⟩ := can_cons hm
    have lo : ∀ (p : Int × Int) (r : List (Int × Int)) (y : Int), p.1 < p.2 → (∀ q ∈ r, p.2 < q.1) → cov (p :: r) y → p.1 ≤ y := fun p r y h1 h2 ⟨q, hq, h3⟩ => by
      rcases List.mem_cons.mp hq with rfl | hq
      · exact h3.1
      · have := h2 q hq
        omega
    have e1 : u.1 = v.1 := by
      have a1 := lo v m u.1 v1 v3 ((h u.1).mp ⟨u, List.mem_cons_self .., Int.le_refl _, u1⟩)
      have a2 := lo u l v.1 u1 u3 ((h v.1).mpr ⟨v, List.mem_cons_self .., Int.le_refl _, v1⟩)
      omega
    have gap : ∀ (p : Int × Int) (r : List (Int × Int)), (∀ q ∈ r, p.2 < q.1) → ¬ cov (p :: r) p.2 := fun p r h2 ⟨q, hq, h3⟩ => by
      rcases List.mem_cons.mp hq with rfl | hq
      · omega
      · have := h2 q hq
        omega
    have e2 : u.2 = v.2 := by
      have b1 := gap u l u3
      have b2 := gap v m v3
      by_cases c : u.2 < v.2
      · exact absurd ((h u.2).mpr ⟨v, List.mem_cons_self .., by omega, c⟩) b1
      · by_cases d : v.2 < u.2
        · exact absurd ((h v.2).mp ⟨u, List.mem_cons_self .., by omega, d⟩) b2
        · omega
    have e : u = v := Prod.ext e1 e2
    subst e
    rw [can_eq l m u2 v2 fun x => ?_]
    have hx := h x
    rw [cov_cons, cov_cons] at hx
    constructor
    · intro c
      rcases hx.mp (.inr c) with d | d
      · obtain ⟨q, hq, h3⟩ := c
        have := u3 q hq
        omega
      · exact d
    · intro c
      rcases hx.mpr (.inr c) with d | d
      · obtain ⟨q, hq, h3⟩ := c
        have := v3 q hq
        omega
      · exact d
theorem mx_le (a b x : Int) : mx a b ≤ x ↔ a ≤ x ∧ b ≤ x := by
  unfold mx
  split <;> omega
theorem lt_mn (a b x : Int) : x < mn a b ↔ x < a ∧ x < b := by
  unfold mn
  split <;> omega
theorem meetF_ok : ∀ (n : Nat) (A B : List (Int × Int)) (k : Nat), A.length + B.length ≤ n → can A → can B →
    ((meetF n A B k).Pairwise fun p q => p.2.2 < q.2.1) ∧ (∀ p ∈ meetF n A B k, p.2.1 < p.2.2 ∧ k ≤ p.1 ∧ (∃ u, A[p.1 - k]? = some u ∧ u.1 ≤ p.2.1 ∧ p.2.2 ≤ u.2) ∧ ∃ v ∈ B, v.1 ≤ p.2.1) ∧ ∀ x, cov ((meetF n A B k).map (·.2)) x ↔ cov A x ∧ cov B x
  | 0, A, B, k, h, _, _ => by
    have e1 : A = [] := List.eq_nil_of_length_eq_zero (by omega)
    subst e1
    exact ⟨List.Pairwise.nil, (fun _ h => nomatch h), fun x => ⟨fun c => absurd c cov_nil, fun c => absurd c.1 cov_nil⟩⟩
  | n + 1, [], B, k, _, _, _ => ⟨List.Pairwise.nil, (fun _ h => nomatch h), fun x => ⟨fun c => absurd c cov_nil, fun c => absurd c.1 cov_nil⟩⟩
  | n + 1, a :: A, [], k, _, _, _ => ⟨List.Pairwise.nil, (fun _ h => nomatch h), fun x => ⟨fun c => absurd c cov_nil, fun c => absurd c.2 cov_nil⟩⟩
  | n + 1, a :: A, b :: B, k, h, hA, hB => by
    obtain ⟨a1, a2, a3⟩ := can_cons hA
    obtain ⟨b1, b2, b3⟩ := can_cons hB
    rw [List.length_cons, List.length_cons] at h
    have hhit : ∀ p ∈ hit k a b, p.2.1 < p.2.2 ∧ p.1 = k ∧ a.1 ≤ p.2.1 ∧ p.2.2 ≤ a.2 ∧ b.1 ≤ p.2.1 ∧ p.2.2 ≤ b.2 := fun p hp => by
      unfold hit at hp
      split at hp
      · rename_i hc
        rw [List.mem_singleton.mp hp]
        have m1 := (mx_le a.1 b.1 (mx a.1 b.1)).mp (Int.le_refl _)
        have m2 : mn a.2 b.2 ≤ a.2 ∧ mn a.2 b.2 ≤ b.2 := by
          unfold mn
          split <;> omega
        exact ⟨hc, rfl, m1.1, m2.1, m1.2, m2.2⟩
      · cases hp
    have chit : ∀ x, cov ((hit k a b).map (·.2)) x ↔ (a.1 ≤ x ∧ x < a.2) ∧ (b.1 ≤ x ∧ x < b.2) := fun x => by
      have e := mx_le a.1 b.1 x
      have e' := lt_mn a.2 b.2 x
      unfold hit
      split
      · constructor
        · rintro ⟨u, hu, h1, h2⟩
          have hu' : u = (mx a.1 b.1, mn a.2 b.2) := List.mem_singleton.mp hu
          subst hu'
          have q1 := e.mp h1
          have q2 := e'.mp h2
          exact ⟨⟨q1.1, q2.1⟩, q1.2, q2.2⟩
        · rintro ⟨⟨c1, c2⟩, c3, c4⟩
          exact ⟨(mx a.1 b.1, mn a.2 b.2), List.mem_singleton.mpr rfl, e.mpr ⟨c1, c3⟩, e'.mpr ⟨c2, c4⟩⟩
      · rename_i hc
        constructor
        · exact fun c => absurd c cov_nil
        · rintro ⟨⟨c1, c2⟩, c3, c4⟩
          have q1 := e.mpr ⟨c1, c3⟩
          have q2 := e'.mpr ⟨c2, c4⟩
          omega
    have hpw : (hit k a b).Pairwise fun p q => p.2.2 < q.2.1 := by
      unfold hit
      split
      · exact List.pairwise_singleton _ _
      · exact List.Pairwise.nil
    rw [meetF_cons]
    by_cases c : a.2 ≤ b.2
    · rw [if_pos c]
      obtain ⟨r1, r2, r3⟩ := meetF_ok n A (b :: B) (k + 1) (by rw [List.length_cons]; omega) a2 hB
      refine ⟨List.pairwise_append.mpr ⟨hpw, r1, fun p hp q hq => ?_⟩, fun p hp => ?_, fun x => ?_⟩
      · obtain ⟨_, _, _, h4, _⟩ := hhit p hp
        obtain ⟨_, _, ⟨u, hu, hu1, _⟩, _⟩ := r2 q hq
        have := a3 u (List.mem_of_getElem? hu)
        omega
      · rcases List.mem_append.mp hp with hp | hp
        · obtain ⟨h1, h2, h3, h4, h5, h6⟩ := hhit p hp
          exact ⟨h1, by omega, ⟨a, by rw [h2, Nat.sub_self]; rfl, h3, h4⟩, b, List.mem_cons_self .., h5⟩
        · obtain ⟨h1, h2, ⟨u, hu, h3⟩, h4⟩ := r2 p hp
          refine ⟨h1, by omega, ⟨u, ?_, h3⟩, h4⟩
          rw [show p.1 - k = (p.1 - (k + 1)) + 1 by omega, List.getElem?_cons_succ]
          exact hu
      · rw [List.map_append, cov_app, chit, r3, cov_cons, cov_cons]
        constructor
        · rintro (⟨d1, d2⟩ | ⟨d1, d2⟩)
          · exact ⟨.inl d1, .inl d2⟩
          · exact ⟨.inr d1, d2⟩
        · rintro ⟨d1 | d1, d2⟩
          · rcases d2 with d2 | ⟨q, hq, d2⟩
            · exact .inl ⟨d1, d2⟩
            · have := b3 q hq
              omega
          · exact .inr ⟨d1, d2⟩
    · rw [if_neg c]
      obtain ⟨r1, r2, r3⟩ := meetF_ok n (a :: A) B k (by rw [List.length_cons]; omega) hA b2
      refine ⟨List.pairwise_append.mpr ⟨hpw, r1, fun p hp q hq => ?_⟩, fun p hp => ?_, fun x => ?_⟩
      · obtain ⟨_, _, _, _, _, h4⟩ := hhit p hp
        obtain ⟨_, _, _, v, hv, hv1⟩ := r2 q hq
        have := b3 v hv
        omega
      · rcases List.mem_append.mp hp with hp | hp
        · obtain ⟨h1, h2, h3, h4, h5, h6⟩ := hhit p hp
          exact ⟨h1, by omega, ⟨a, by rw [h2, Nat.sub_self]; rfl, h3, h4⟩, b, List.mem_cons_self .., h5⟩
        · obtain ⟨h1, h2, h3, v, hv, h4⟩ := r2 p hp
          exact ⟨h1, h2, h3, v, List.mem_cons_of_mem _ hv, h4⟩
      · rw [List.map_append, cov_app, chit, r3, cov_cons, cov_cons]
        constructor
        · rintro (⟨d1, d2⟩ | ⟨d1, d2⟩)
          · exact ⟨.inl d1, .inl d2⟩
          · exact ⟨d1, .inr d2⟩
        · rintro ⟨d1, d2 | d2⟩
          · rcases d1 with d1 | ⟨q, hq, d1⟩
            · exact .inl ⟨d1, d2⟩
            · have := a3 q hq
              omega
          · exact .inr ⟨d1, d2⟩
def leII (p q : Int × Int) : Bool := decide (p.1 < q.1 ∨ (p.1 = q.1 ∧ p.2 ≤ q.2))
theorem leII_anti (p q : Int × Int) (h : leII p q = true) (h2 : leII q p = true) : p = q := by
  obtain ⟨a, b⟩ := p
  obtain ⟨c, d⟩ := q
  have h' := of_decide_eq_true h
  have h2' := of_decide_eq_true h2
  dsimp only at h' h2'
  have e1 : a = c := by omega
  have e2 : b = d := by omega
  rw [e1, e2]
def srt (l : List (Int × Int)) : List (Int × Int) := l.mergeSort leII
theorem srt_perm (l : List (Int × Int)) : (srt l).Perm l := List.mergeSort_perm ..
theorem srt_sorted (l : List (Int × Int)) : (srt l).Pairwise fun p q => leII p q = true :=
  List.pairwise_mergeSort (le := leII) (fun a b c h h2 => by
    have h' := of_decide_eq_true h
    have h2' := of_decide_eq_true h2
    exact decide_eq_true (by omega)) (fun a b => by
    unfold leII
    rw [Bool.or_eq_true, decide_eq_true_iff, decide_eq_true_iff]
    omega) l
def stepR : List (Int × Int) → Int × Int → List (Int × Int)
  | [], p => [p]
  | q :: r, p => if p.1 ≤ q.2 then (q.1, if p.2 > q.2 then p.2 else q.2) :: r else p :: q :: r
theorem stepR_cons (q p : Int × Int) (r : List (Int × Int)) : stepR (q :: r) p = if p.1 ≤ q.2 then (q.1, if p.2 > q.2 then p.2 else q.2) :: r else p :: q :: r := rfl
def mrg (ps : List (Int × Int)) : List (Int × Int) := ((srt (ps.filter fun p => decide (p.1 < p.2))).foldl stepR []).reverse
def okp (sz : Int) (u : Int × Int) : Prop := 0 ≤ u.1 ∧ u.1 < u.2 ∧ u.2 ≤ sz
theorem step_ok {sz : Int} {acc : List (Int × Int)} {p : Int × Int} (h1 : acc.Pairwise fun q u => u.2 < q.1) (h2 : ∀ u ∈ acc, okp sz u) (h3 : ∀ u ∈ acc, u.1 ≤ p.1) (hp : okp sz p) :
    (stepR acc p).Pairwise (fun q u => u.2 < q.1) ∧ (∀ u ∈ stepR acc p, okp sz u) ∧ (∀ u ∈ stepR acc p, u.1 ≤ p.1) ∧ ∀ x, cov (stepR acc p) x ↔ cov acc x ∨ (p.1 ≤ x ∧ x < p.2) := by
  obtain ⟨p0, p1, p2⟩ := hp
  cases acc with
  | nil =>
    refine ⟨List.pairwise_singleton _ _, fun u hu => ?_, fun u hu => ?_, fun x => ?_⟩
    · rw [List.mem_singleton.mp hu]
      exact ⟨p0, p1, p2⟩
    · rw [List.mem_singleton.mp hu]
      exact Int.le_refl _
    · show cov [p] x ↔ _
      rw [cov_cons]
      constructor
      · rintro (h | h)
        · exact .inr h
        · exact absurd h cov_nil
      · rintro (h | h)
        · exact absurd h cov_nil
        · exact .inl h
  | cons q r =>
    obtain ⟨q0, q1, q2⟩ := h2 q (List.mem_cons_self ..)
    have hq := h3 q (List.mem_cons_self ..)
    have hr := List.pairwise_cons.mp h1
    rw [stepR_cons]
    by_cases e : p.1 ≤ q.2
    · rw [if_pos e]
      refine ⟨List.pairwise_cons.mpr ⟨fun u hu => hr.1 u hu, hr.2⟩, fun u hu => ?_, fun u hu => ?_, fun x => ?_⟩
      · rcases List.mem_cons.mp hu with rfl | hu
        · refine ⟨q0, ?_, ?_⟩ <;> dsimp only <;> split <;> omega
        · exact h2 u (List.mem_cons_of_mem _ hu)
      · rcases List.mem_cons.mp hu with rfl | hu
        · exact hq
        · exact h3 u (List.mem_cons_of_mem _ hu)
      · rw [cov_cons, cov_cons]
        dsimp only
        constructor
        · rintro (⟨a, b⟩ | h)
          · split at b
            · by_cases c : x < q.2
              · exact .inl (.inl ⟨a, c⟩)
              · exact .inr ⟨by omega, b⟩
            · exact .inl (.inl ⟨a, b⟩)
          · exact .inl (.inr h)
        · rintro ((⟨a, b⟩ | h) | ⟨a, b⟩)
          · refine .inl ⟨a, ?_⟩
            split <;> omega
          · exact .inr h
          · refine .inl ⟨by omega, ?_⟩
            split <;> omega
    · rw [if_neg e]
      refine ⟨List.pairwise_cons.mpr ⟨fun u hu => ?_, h1⟩, fun u hu => ?_, fun u hu => ?_, fun x => ?_⟩
      · rcases List.mem_cons.mp hu with rfl | hu
        · omega
        · have := hr.1 u hu
          omega
      · rcases List.mem_cons.mp hu with rfl | hu
        · exact ⟨p0, p1, p2⟩
        · exact h2 u hu
      · rcases List.mem_cons.mp hu with rfl | hu
        · exact Int.le_refl _
        · exact h3 u hu
      · rw [cov_cons]
        exact Or.comm
theorem fold_ok {sz : Int} : ∀ (l acc : List (Int × Int)), (l.Pairwise fun p q => leII p q = true) → (∀ u ∈ acc, ∀ p ∈ l, u.1 ≤ p.1) → (acc.Pairwise fun q u => u.2 < q.1) → (∀ u ∈ acc, okp sz u) → (∀ p ∈ l, okp sz p) →
    ((l.foldl stepR acc).Pairwise fun q u => u.2 < q.1) ∧ (∀ u ∈ l.foldl stepR acc, okp sz u) ∧ ∀ x, cov (l.foldl stepR acc) x ↔ cov acc x ∨ cov l x
  | [], acc, _, _, h1, h2, _ => ⟨h1, h2, fun x => ⟨.inl, fun h => h.elim id fun h => absurd h cov_nil⟩⟩
  | p :: l, acc, hl, ha, h1, h2, hp => by
    obtain ⟨s1, s2, s3, s4⟩ := step_ok h1 h2 (fun u hu => ha u hu p (List.mem_cons_self ..)) (hp p (List.mem_cons_self ..))
    have hl' := List.pairwise_cons.mp hl
    obtain ⟨r1, r2, r3⟩ := fold_ok l (stepR acc p) hl'.2 (fun u hu v hv => by
      have a := s3 u hu
      have b := of_decide_eq_true (hl'.1 v hv)
      omega) s1 s2 fun v hv => hp v (List.mem_cons_of_mem _ hv)
    refine ⟨r1, r2, fun x => ?_⟩
    show cov (l.foldl stepR (stepR acc p)) x ↔ _
    rw [r3, s4, cov_cons, or_assoc]
theorem mrg_ok {sz : Int} {ps : List (Int × Int)} (h : ∀ p ∈ ps, p.1 < p.2 → okp sz p) :
    ((mrg ps).Pairwise fun u v => u.2 < v.1) ∧ (∀ u ∈ mrg ps, okp sz u) ∧ ∀ x, cov (mrg ps) x ↔ cov ps x := by
  have hm : ∀ p, p ∈ srt (ps.filter fun p => decide (p.1 < p.2)) ↔ p ∈ ps ∧ p.1 < p.2 := fun p => by
    rw [(srt_perm _).mem_iff, List.mem_filter, decide_eq_true_iff]
  obtain ⟨r1, r2, r3⟩ := fold_ok (sz := sz) (srt (ps.filter fun p => decide (p.1 < p.2))) [] (srt_sorted _) (fun _ h => nomatch h) List.Pairwise.nil (fun _ h => nomatch h) fun p hp => h p ((hm p).mp hp).1 ((hm p).mp hp).2
  refine ⟨List.pairwise_reverse.mpr r1, fun u hu => r2 u (List.mem_reverse.mp hu), fun x => ?_⟩
  have e1 : cov (mrg ps) x ↔ cov ((srt (ps.filter fun p => decide (p.1 < p.2))).foldl stepR []) x := by
    constructor
    · rintro ⟨u, hu, k⟩
      exact ⟨u, List.mem_reverse.mp hu, k⟩
    · rintro ⟨u, hu, k⟩
      exact ⟨u, List.mem_reverse.mpr hu, k⟩
  rw [e1, r3]
  constructor
  · rintro (k | ⟨u, hu, k⟩)
    · exact absurd k cov_nil
    · exact ⟨u, ((hm u).mp hu).1, k⟩
  · rintro ⟨u, hu, k⟩
    exact .inr ⟨u, (hm u).mpr ⟨hu, by omega⟩, k⟩
def wi (size : Int) : Spn → Int × Int
  | (none, some n) => (if size - n > 0 then size - n else 0, size)
  | (none, none) => (0, size)
  | (some a, none) => (a, size)
  | (some a, some b) => (a, if size < b then size else b)
def good5 : Spn → Prop
  | (none, none) => False
  | (none, some n) => 1 ≤ n
  | (some a, none) => 0 ≤ a
  | (some a, some b) => 0 ≤ a ∧ a < b
def tells (size at_ : Int) : Spn → Bool
  | (none, none) => false
  | (none, some n) => decide (size - n ≤ at_)
  | (some a, none) => decide (a ≤ at_)
  | (some a, some b) => decide (a ≤ at_) && decide (at_ < b)
def strT (sps : List Spn) (size : Int) : List (Int × Int) := if sps = [] then mrg [(0, size)] else mrg (sps.map (wi size))
theorem wi_ok {size : Int} (h0 : 0 ≤ size) {sp : Spn} (hg : good5 sp) (h : (wi size sp).1 < (wi size sp).2) : okp size (wi size sp) := by
  obtain ⟨a, b⟩ := sp
  cases a <;> cases b <;> simp only [good5] at hg <;> simp only [wi] at h ⊢ <;> refine ⟨?_, ?_, ?_⟩ <;> dsimp only at h ⊢ <;> (try split) <;> (try split at h) <;> omega
theorem wi_tells {size : Int} {sp : Spn} (hg : good5 sp) {x : Int} (h0 : 0 ≤ x) (h1 : x < size) : ((wi size sp).1 ≤ x ∧ x < (wi size sp).2) ↔ tells size x sp = true := by
  obtain ⟨a, b⟩ := sp
  cases a <;> cases b <;> simp only [good5] at hg <;> simp only [wi, tells, Bool.and_eq_true, decide_eq_true_eq] <;> (try split) <;> omega
theorem strT_ok {size : Int} (h0 : 0 ≤ size) {sps : List Spn} (hg : ∀ sp ∈ sps, good5 sp) :
    ((strT sps size).Pairwise fun u v => u.2 < v.1) ∧ (∀ u ∈ strT sps size, okp size u) ∧ ∀ x, 0 ≤ x → x < size → (cov (strT sps size) x ↔ sps = [] ∨ ∃ sp ∈ sps, tells size x sp = true) := by
  unfold strT
  by_cases e : sps = []
  · rw [if_pos e]
    obtain ⟨r1, r2, r3⟩ := mrg_ok (sz := size) (ps := [(0, size)]) fun p hp hlt => by
      rw [List.mem_singleton.mp hp] at hlt ⊢
      exact ⟨Int.le_refl _, hlt, Int.le_refl _⟩
    refine ⟨r1, r2, fun x x0 x1 => ?_⟩
    rw [r3]
    exact ⟨fun _ => .inl e, fun _ => ⟨(0, size), List.mem_singleton.mpr rfl, x0, x1⟩⟩
  · rw [if_neg e]
    obtain ⟨r1, r2, r3⟩ := mrg_ok (sz := size) (ps := sps.map (wi size)) fun p hp hlt => by
      obtain ⟨sp, hsp, rfl⟩ := List.mem_map.mp hp
      exact wi_ok h0 (hg sp hsp) hlt
    refine ⟨r1, r2, fun x x0 x1 => ?_⟩
    rw [r3]
    constructor
    · rintro ⟨u, hu, k⟩
      obtain ⟨sp, hsp, rfl⟩ := List.mem_map.mp hu
      exact .inr ⟨sp, hsp, (wi_tells (hg sp hsp) x0 x1).mp k⟩
    · rintro (k | ⟨sp, hsp, k⟩)
      · exact absurd k e
      · exact ⟨_, List.mem_map.mpr ⟨sp, hsp, rfl⟩, (wi_tells (hg sp hsp) x0 x1).mpr k⟩
theorem ixN_last (n : Nat) : ixN (n + 1) (-1) = some n := by
  unfold ixN
  rw [if_neg (by decide), if_pos (by omega)]
  congr 1
  omega
theorem set_last {α : Type} (xs : List α) (x v : α) : (xs ++ [x]).set xs.length v = xs ++ [v] := by
  rw [List.set_append_right _ _ (Nat.le_refl _), Nat.sub_self]
  rfl
theorem unt_ok (size : Int) : ∀ (A : List (Int × Int)) (a : Int), can A → (∀ u ∈ A, a ≤ u.1) → can (unt a size A) ∧ (∀ v ∈ unt a size A, a ≤ v.1) ∧ ∀ x, x < size → (cov (unt a size A) x ↔ a ≤ x ∧ ¬ cov A x)
  | [], a, _, _ => by
    unfold unt
    split
    · refine ⟨can_mk (by assumption) ⟨List.Pairwise.nil, (fun _ h => nomatch h)⟩ (fun _ h => nomatch h), fun v hv => ?_, fun x hx => ?_⟩
      · rw [List.mem_singleton.mp hv]
        exact Int.le_refl _
      · rw [cov_cons]
        constructor
        · rintro (c | c)
          · exact ⟨c.1, cov_nil⟩
          · exact absurd c cov_nil
        · exact fun c => .inl ⟨c.1, hx⟩
    · refine ⟨⟨List.Pairwise.nil, (fun _ h => nomatch h)⟩, (fun _ h => nomatch h), fun x hx => ⟨fun c => absurd c cov_nil, fun c => ?_⟩⟩
      omega
  | u :: r, a, hA, ha => by
    obtain ⟨u1, u2, u3⟩ := can_cons hA
    have hu := ha u (List.mem_cons_self ..)
    obtain ⟨r1, r2, r3⟩ := unt_ok size r u.2 u2 fun v hv => by
      have := u3 v hv
      omega
    show can ((if a < u.1 then [(a, u.1)] else []) ++ unt u.2 size r) ∧ (∀ v ∈ (if a < u.1 then [(a, u.1)] else []) ++ unt u.2 size r, a ≤ v.1) ∧ ∀ x, x < size → (cov ((if a < u.1 then [(a, u.1)] else []) ++ unt u.2 size r) x ↔ a ≤ x ∧ ¬ cov (u :: r) x)
    have key : ∀ x, x < size → ((a ≤ x ∧ x < u.1) ∨ cov (unt u.2 size r) x ↔ a ≤ x ∧ ¬ cov (u :: r) x) := fun x hx => by
      rw [r3 x hx, cov_cons]
      constructor
      · rintro (c | c)
        · refine ⟨c.1, fun d => ?_⟩
          rcases d with d | ⟨v, hv, d⟩
          · omega
          · have := u3 v hv
            omega
        · refine ⟨by omega, fun d => ?_⟩
          rcases d with d | d
          · omega
          · exact c.2 d
      · rintro ⟨c, d⟩
        by_cases e : x < u.1
        · exact .inl ⟨c, e⟩
        · by_cases e2 : x < u.2
          · exact absurd (.inl ⟨by omega, e2⟩) d
          · exact .inr ⟨by omega, fun k => d (.inr k)⟩
    by_cases c : a < u.1
    · rw [if_pos c]
      refine ⟨can_mk c r1 (fun v hv => by have := r2 v hv; dsimp only; omega), fun v hv => ?_, fun x hx => ?_⟩
      · rcases List.mem_cons.mp hv with rfl | hv
        · exact Int.le_refl _
        · have := r2 v hv
          omega
      · rw [← key x hx]
        exact cov_cons
    · rw [if_neg c]
      refine ⟨r1, fun v hv => ?_, fun x hx => ?_⟩
      · have := r2 v hv
        omega
      · rw [← key x hx]
        constructor
        · exact fun k => .inr k
        · rintro (k | k)
          · omega
          · exact k
theorem unt_len (size : Int) : ∀ (A : List (Int × Int)) (a : Int), (unt a size A).length ≤ A.length + 1
  | [], a => by
    unfold unt
    split <;> simp
  | u :: r, a => by
    have := unt_len size r u.2
    show ((if a < u.1 then [(a, u.1)] else []) ++ unt u.2 size r).length ≤ _
    rw [List.length_append, List.length_cons]
    split <;> simp only [List.length_cons, List.length_nil] <;> omega
theorem meet_can {A B : List (Int × Int)} (hA : can A) (hB : can B) : can ((meet A B).map (·.2)) := by
  obtain ⟨r1, r2, _⟩ := meetF_ok (A.length + B.length) A B 0 (Nat.le_refl _) hA hB
  refine ⟨List.pairwise_map.mpr r1, fun u hu => ?_⟩
  obtain ⟨p, hp, rfl⟩ := List.mem_map.mp hu
  exact (r2 p hp).1
theorem meet_cov {A B : List (Int × Int)} (hA : can A) (hB : can B) (x : Int) : cov ((meet A B).map (·.2)) x ↔ cov A x ∧ cov B x := (meetF_ok (A.length + B.length) A B 0 (Nat.le_refl _) hA hB).2.2 x
theorem meet_at {A B : List (Int × Int)} (hA : can A) (hB : can B) {p : Nat × Int × Int} (hp : p ∈ meet A B) : p.2.1 < p.2.2 ∧ ∃ u, A[p.1]? = some u ∧ u.1 ≤ p.2.1 ∧ p.2.2 ≤ u.2 := by
  obtain ⟨h1, _, ⟨u, hu, h3⟩, _⟩ := (meetF_ok (A.length + B.length) A B 0 (Nat.le_refl _) hA hB).2.1 p hp
  exact ⟨h1, u, hu, h3⟩
theorem meet_len (A B : List (Int × Int)) : (meet A B).length ≤ A.length + B.length := meetF_len _ _ _ _
def lastOf (W : List (Int × Int)) : Int := ((W.getLast?).map (·.2)).getD 0
def lak (W A : List (Int × Int)) : List (Int × Int) := if W = [] then [] else (meet W (unt 0 (lastOf W) A)).map (·.2)
theorem le_last {W : List (Int × Int)} (h : can W) {x : Int} (c : cov W x) : x < lastOf W := by
  obtain ⟨u, hu, h1, h2⟩ := c
  obtain ⟨i, hi, rfl⟩ := List.getElem_of_mem hu
  have hl : W.getLast? = some (W[W.length - 1]'(by omega)) := by
    rw [List.getLast?_eq_getElem?, List.getElem?_eq_getElem (by omega)]
  unfold lastOf
  rw [hl]
  show x < (W[W.length - 1]'(by omega)).2
  by_cases e : i = W.length - 1
  · subst e
    exact h2
  · have p1 := (List.pairwise_iff_getElem.mp h.1) i (W.length - 1) hi (by omega) (by omega)
    have p2 := h.2 (W[W.length - 1]'(by omega)) (List.getElem_mem _)
    omega
theorem lak_ok {W A : List (Int × Int)} (hW : can W) (hA : can A) (w0 : ∀ u ∈ W, 0 ≤ u.1) (a0 : ∀ u ∈ A, 0 ≤ u.1) : can (lak W A) ∧ ∀ x, cov (lak W A) x ↔ cov W x ∧ ¬ cov A x := by
  unfold lak
  split
  · rename_i e
    subst e
    exact ⟨hW, fun x => ⟨fun c => absurd c cov_nil, fun c => absurd c.1 cov_nil⟩⟩
  · obtain ⟨r1, r2, r3⟩ := unt_ok (lastOf W) A 0 hA a0
    refine ⟨meet_can hW r1, fun x => ?_⟩
    rw [meet_cov hW r1]
    constructor
    · rintro ⟨c1, c2⟩
      exact ⟨c1, ((r3 x (le_last hW c1)).mp c2).2⟩
    · rintro ⟨c1, c2⟩
      obtain ⟨u, hu, h1, h2⟩ := id c1
      have := w0 u hu
      exact ⟨c1, (r3 x (le_last hW c1)).mpr ⟨by omega, c2⟩⟩
theorem lak_len (W A : List (Int × Int)) : (lak W A).length ≤ W.length + A.length + 1 := by
  unfold lak
  split
  · exact Nat.zero_le _
  · rw [List.length_map]
    have h1 := meet_len W (unt 0 (lastOf W) A)
    have h2 := unt_len (lastOf W) A 0
    omega
def txtF (f : Int → Nat) (a b : Int) : Str := ⟨((List.range (b - a).toNat).map fun i => f (a + (i : Nat))).toArray⟩
def partsF (f : Int → Nat) (S : List (Int × Int)) : List Prt := S.map fun u => (u.1, txtF f u.1 u.2)
theorem txtF_len (f : Int → Nat) (a b : Int) : (txtF f a b).length = (b - a).toNat := by
  unfold txtF
  rw [mk_len, List.length_map, List.length_range]
theorem tb_partsF {f : Int → Nat} {S : List (Int × Int)} (h : can S) : (partsF f S).map tb = S := by
  unfold partsF
  rw [List.map_map]
  have e : ∀ u ∈ S, (tb ∘ fun u : Int × Int => (u.1, txtF f u.1 u.2)) u = u := fun u hu => by
    show (u.1, u.1 + ((txtF f u.1 u.2).length : Int)) = u
    rw [txtF_len]
    have := h.2 u hu
    exact Prod.ext rfl (by dsimp only; omega)
  rw [List.map_congr_left e, List.map_id']
theorem range_cut (g : Nat → Nat) (n k m : Nat) (h : k + m ≤ n) : (((List.range n).map g).drop k).take m = (List.range m).map fun i => g (k + i) := by
  apply List.ext_getElem
  · rw [List.length_take, List.length_drop, List.length_map, List.length_map, List.length_range, List.length_range]
    omega
  · intro i h1 h2
    rw [List.getElem_take, List.getElem_drop, List.getElem_map, List.getElem_map, List.getElem_range, List.getElem_range]
theorem txtF_cut {f : Int → Nat} {a b s t : Int} (h1 : a ≤ s) (h2 : s ≤ t) (h3 : t ≤ b) : cutS (txtF f a b) (some (s - a)) (some (t - a)) = txtF f s t := by
  obtain ⟨k, hk⟩ : ∃ k : Nat, s - a = k := ⟨(s - a).toNat, by omega⟩
  obtain ⟨m, hm⟩ : ∃ m : Nat, t - a = m := ⟨(t - a).toNat, by omega⟩
  unfold cutS
  rw [hk, hm, HT.sIx_nat, HT.sIx_nat, txtF_len]
  have e1 : min k (b - a).toNat = k := by omega
  have e2 : min m (b - a).toNat = m := by omega
  rw [e1, e2]
  unfold txtF
  rw [show (((List.range (b - a).toNat).map fun i => f (a + (i : Nat))).toArray).toList = (List.range (b - a).toNat).map fun i => f (a + (i : Nat)) from rfl, range_cut _ _ _ _ (by omega), show (t - s).toNat = m - k by omega]
  have e3 : (fun i : Nat => f (a + ((k + i : Nat) : Int))) = fun i : Nat => f (s + (i : Nat)) := by
    funext i
    congr 1
    omega
  rw [e3]
theorem txtF_app {f : Int → Nat} {a b c : Int} (h1 : a ≤ b) (h2 : b ≤ c) : txtF f a b ++ txtF f b c = txtF f a c := by
  refine PyProof.Rows.ext_toList ?_
  have e : (txtF f a b ++ txtF f b c).cps.toList = (txtF f a b).cps.toList ++ (txtF f b c).cps.toList := Array.toList_append
  rw [e]
  unfold txtF
  show ((List.range (b - a).toNat).map fun i => f (a + (i : Nat))) ++ ((List.range (c - b).toNat).map fun i => f (b + (i : Nat))) = (List.range (c - a).toNat).map fun i => f (a + (i : Nat))
  rw [show (c - a).toNat = (b - a).toNat + (c - b).toNat by omega, List.range_add, List.map_append, List.map_map]
  congr 1
  refine List.map_congr_left fun i _ => ?_
  show f (b + (i : Nat)) = f (a + (((b - a).toNat + i : Nat) : Int))
  congr 1
  omega
theorem txtF_congr {f g : Int → Nat} {a b : Int} (h : ∀ x, a ≤ x → x < b → f x = g x) : txtF f a b = txtF g a b := by
  unfold txtF
  congr 2
  refine List.map_congr_left fun i hi => ?_
  have := List.mem_range.mp hi
  exact h _ (by omega) (by omega)
theorem partsF_congr {f g : Int → Nat} {S : List (Int × Int)} (h : ∀ x, cov S x → f x = g x) : partsF f S = partsF g S := by
  unfold partsF
  refine List.map_congr_left fun u hu => ?_
  rw [txtF_congr fun x h1 h2 => h x ⟨u, hu, h1, h2⟩]
def stepJ : List (Int × Int) → Int × Int → List (Int × Int)
  | [], p => [p]
  | q :: r, p => if q.2 = p.1 then (q.1, p.2) :: r else p :: q :: r
theorem stepJ_cons (q p : Int × Int) (r : List (Int × Int)) : stepJ (q :: r) p = if q.2 = p.1 then (q.1, p.2) :: r else p :: q :: r := rfl
theorem foldJ_ok : ∀ (S acc : List (Int × Int)), (S.Pairwise fun u v => u.2 ≤ v.1) → (∀ u ∈ S, u.1 < u.2) → (acc.Pairwise fun q u => u.2 < q.1) → (∀ u ∈ acc, u.1 < u.2) → (∀ u ∈ acc, ∀ p ∈ S, u.2 ≤ p.1) →
    ((S.foldl stepJ acc).Pairwise fun q u => u.2 < q.1) ∧ (∀ u ∈ S.foldl stepJ acc, u.1 < u.2) ∧ ∀ x, cov (S.foldl stepJ acc) x ↔ cov acc x ∨ cov S x
  | [], acc, _, _, h3, h4, _ => ⟨h3, h4, fun x => ⟨.inl, fun c => c.elim id fun c => absurd c cov_nil⟩⟩
  | p :: S, acc, h1, h2, h3, h4, h5 => by
    have hp := h2 p (List.mem_cons_self ..)
    have hS := List.pairwise_cons.mp h1
    have st : ((stepJ acc p).Pairwise fun q u => u.2 < q.1) ∧ (∀ u ∈ stepJ acc p, u.1 < u.2) ∧ (∀ u ∈ stepJ acc p, u.2 ≤ p.2) ∧ ∀ x, cov (stepJ acc p) x ↔ cov acc x ∨ (p.1 ≤ x ∧ x < p.2) := by
      cases acc with
      | nil =>
        refine ⟨List.pairwise_singleton _ _, fun u hu => ?_, fun u hu => ?_, fun x => ?_⟩
        · rw [List.mem_singleton.mp hu]
          exact hp
        · rw [List.mem_singleton.mp hu]
          exact Int.le_refl _
        · show cov [p] x ↔ _
          rw [cov_cons]
          exact Or.comm
      | cons q r =>
        have hq := h4 q (List.mem_cons_self ..)
        have hqp := h5 q (List.mem_cons_self ..) p (List.mem_cons_self ..)
        have hr := List.pairwise_cons.mp h3
        rw [stepJ_cons]
        by_cases c : q.2 = p.1
        · rw [if_pos c]
          refine ⟨List.pairwise_cons.mpr ⟨fun u hu => hr.1 u hu, hr.2⟩, fun u hu => ?_, fun u hu => ?_, fun x => ?_⟩
          · rcases List.mem_cons.mp hu with rfl | hu
            · dsimp only
              omega
            · exact h4 u (List.mem_cons_of_mem _ hu)
          · rcases List.mem_cons.mp hu with rfl | hu
            · exact Int.le_refl _
            · have := h5 u (List.mem_cons_of_mem _ hu) p (List.mem_cons_self ..)
              omega
          · rw [cov_cons, cov_cons]
            dsimp only
            constructor
            · rintro (⟨a, b⟩ | k)
              · by_cases d : x < q.2
                · exact .inl (.inl ⟨a, d⟩)
                · exact .inr ⟨by omega, b⟩
              · exact .inl (.inr k)
            · rintro ((⟨a, b⟩ | k) | ⟨a, b⟩)
              · exact .inl ⟨a, by omega⟩
              · exact .inr k
              · exact .inl ⟨by omega, b⟩
        · rw [if_neg c]
          refine ⟨List.pairwise_cons.mpr ⟨fun u hu => ?_, h3⟩, fun u hu => ?_, fun u hu => ?_, fun x => ?_⟩
          · rcases List.mem_cons.mp hu with rfl | hu
            · omega
            · have := hr.1 u hu
              omega
          · rcases List.mem_cons.mp hu with rfl | hu
            · exact hp
            · exact h4 u hu
          · rcases List.mem_cons.mp hu with rfl | hu
            · exact Int.le_refl _
            · have := h5 u hu p (List.mem_cons_self ..)
              omega
          · rw [cov_cons]
            exact Or.comm
    obtain ⟨s1, s2, s3, s4⟩ := st
    obtain ⟨r1, r2, r3⟩ := foldJ_ok S (stepJ acc p) hS.2 (fun u hu => h2 u (List.mem_cons_of_mem _ hu)) s1 s2 fun u hu v hv => by
      have a := s3 u hu
      have b := hS.1 v hv
      omega
    refine ⟨r1, r2, fun x => ?_⟩
    show cov (S.foldl stepJ (stepJ acc p)) x ↔ _
    rw [r3, s4, cov_cons, or_assoc]
def inC (A : List (Int × Int)) (x : Int) : Bool := A.any fun u => decide (u.1 ≤ x) && decide (x < u.2)
theorem inC_iff {A : List (Int × Int)} {x : Int} : inC A x = true ↔ cov A x := by
  unfold inC
  rw [List.any_eq_true]
  constructor
  · rintro ⟨u, hu, h⟩
    simp only [Bool.and_eq_true, decide_eq_true_eq] at h
    exact ⟨u, hu, h⟩
  · rintro ⟨u, hu, h⟩
    exact ⟨u, hu, by simpa using h⟩
def sel (A : List (Int × Int)) (f g : Int → Nat) (x : Int) : Nat := if inC A x = true then f x else g x
def jn (S : List (Int × Int)) : List (Int × Int) := (S.foldl stepJ []).reverse
theorem jn_ok {S : List (Int × Int)} (h1 : S.Pairwise fun u v => u.2 ≤ v.1) (h2 : ∀ u ∈ S, u.1 < u.2) : can (jn S) ∧ ∀ x, cov (jn S) x ↔ cov S x := by
  obtain ⟨r1, r2, r3⟩ := foldJ_ok S [] h1 h2 List.Pairwise.nil (fun _ h => nomatch h) (fun _ h => nomatch h)
  refine ⟨⟨List.pairwise_reverse.mpr r1, fun u hu => r2 u (List.mem_reverse.mp hu)⟩, fun x => ?_⟩
  have e1 : cov (jn S) x ↔ cov (S.foldl stepJ []) x := by
    constructor
    · rintro ⟨u, hu, k⟩
      exact ⟨u, List.mem_reverse.mp hu, k⟩
    · rintro ⟨u, hu, k⟩
      exact ⟨u, List.mem_reverse.mpr hu, k⟩
  rw [e1, r3]
  exact ⟨fun c => c.elim (fun c => absurd c cov_nil) id, .inr⟩
theorem apart {S T : List (Int × Int)} (hp : S.Perm T) (hT : T.Pairwise fun u v => u.2 ≤ v.1 ∨ v.2 ≤ u.1) (h2 : ∀ u ∈ T, u.1 < u.2) (hs : S.Pairwise fun u v => u.1 ≤ v.1) : S.Pairwise fun u v => u.2 ≤ v.1 := by
  have h1 : S.Pairwise fun u v => u.2 ≤ v.1 ∨ v.2 ≤ u.1 := (hp.pairwise_iff fun {x y} h => h.symm).mpr hT
  rw [List.pairwise_iff_getElem] at h1 hs ⊢
  intro i j hi hj hij
  have a := h1 i j hi hj hij
  have b := hs i j hi hj hij
  have c := h2 S[j] (hp.mem_iff.mp (List.getElem_mem hj))
  omega
theorem apart2 {A C : List (Int × Int)} (hA : can A) (hC : can C) (hd : ∀ x, cov A x → ¬ cov C x) : (A ++ C).Pairwise fun u v => u.2 ≤ v.1 ∨ v.2 ≤ u.1 := by
  refine List.pairwise_append.mpr ⟨hA.1.imp fun h => .inl (by omega), hC.1.imp fun h => .inl (by omega), fun u hu v hv => ?_⟩
  have a := hA.2 u hu
  have b := hC.2 v hv
  by_cases c : u.2 ≤ v.1
  · exact .inl c
  · by_cases d : v.2 ≤ u.1
    · exact .inr d
    · exfalso
      by_cases e : u.1 ≤ v.1
      · exact hd v.1 ⟨u, hu, e, by omega⟩ ⟨v, hv, Int.le_refl _, b⟩
      · exact hd u.1 ⟨u, hu, Int.le_refl _, a⟩ ⟨v, hv, by omega, by omega⟩
def wgt (ps : List Prt) : Int := (ps.map fun p => (p.2.length : Int)).sum
theorem asc_txtF {f : Int → Nat} (h : ∀ x, f x < 128) (a b : Int) : Asc (txtF f a b) := by
  unfold txtF
  refine asc_mk fun c hc => ?_
  obtain ⟨i, _, rfl⟩ := List.mem_map.mp hc
  exact h _
theorem asc_partsF {f : Int → Nat} (h : ∀ x, f x < 128) (S : List (Int × Int)) : ∀ p ∈ partsF f S, Asc p.2 := fun p hp => by
  obtain ⟨u, _, rfl⟩ := List.mem_map.mp hp
  exact asc_txtF h _ _
def sgn (z : Str) (x : Int) : Nat := (z.cps.toList[x.toNat]?).getD 0
theorem sgn_asc {z : Str} (h : Asc z) (x : Int) : sgn z x < 128 := by
  unfold sgn
  cases e : z.cps.toList[x.toNat]? with
  | none => show (0 : Nat) < 128; decide
  | some c => exact h c (List.mem_of_getElem? e)
theorem txt_sgn (z : Str) : txtF (sgn z) 0 (z.length : Int) = z := by
  refine PyProof.Rows.ext_toList ?_
  unfold txtF
  show (List.range ((z.length : Int) - 0).toNat).map (fun i => sgn z (0 + (i : Nat))) = z.cps.toList
  have hl := My.len_tl z
  apply List.ext_getElem
  · rw [List.length_map, List.length_range]
    omega
  · intro i h1 h2
    rw [List.getElem_map, List.getElem_range]
    unfold sgn
    rw [show ((0 : Int) + (i : Nat)).toNat = i by omega, List.getElem?_eq_getElem h2]
    rfl
theorem cut_sgn {z : Str} {s t : Int} (h1 : 0 ≤ s) (h2 : s ≤ t) (h3 : t ≤ (z.length : Int)) : cutS z (some s) (some t) = txtF (sgn z) s t := by
  have h := txtF_cut (f := sgn z) (a := 0) (b := (z.length : Int)) h1 h2 h3
  rw [txt_sgn, Int.sub_zero, Int.sub_zero] at h
  exact h
def lenS (S : List (Int × Int)) : Int := (S.map fun u => u.2 - u.1).sum
theorem wgt_partsF {f : Int → Nat} {S : List (Int × Int)} (h : ∀ u ∈ S, u.1 < u.2) : wgt (partsF f S) = lenS S := by
  unfold wgt partsF lenS
  rw [List.map_map]
  congr 1
  refine List.map_congr_left fun u hu => ?_
  show ((txtF f u.1 u.2).length : Int) = u.2 - u.1
  rw [txtF_len]
  have := h u hu
  omega
theorem unt_sum (size : Int) : ∀ (A : List (Int × Int)) (a : Int), can A → (∀ u ∈ A, a ≤ u.1 ∧ u.2 ≤ size) → a ≤ size → lenS (unt a size A) + lenS A = size - a
  | [], a, _, _, h => by
    unfold unt lenS
    split
    · show (size - a + 0) + 0 = _
      omega
    · show (0 : Int) + 0 = _
      omega
  | u :: r, a, hA, ha, h => by
    obtain ⟨u1, u2, u3⟩ := can_cons hA
    have hu := ha u (List.mem_cons_self ..)
    have ih := unt_sum size r u.2 u2 (fun v hv => ⟨by have := u3 v hv; omega, (ha v (List.mem_cons_of_mem _ hv)).2⟩) hu.2
    unfold lenS at ih ⊢
    show (((if a < u.1 then [(a, u.1)] else []) ++ unt u.2 size r).map fun u => u.2 - u.1).sum + ((u.2 - u.1) + (r.map fun u => u.2 - u.1).sum) = size - a
    by_cases c : a < u.1
    · rw [if_pos c]
      show ((u.1 - a) + ((unt u.2 size r).map fun u => u.2 - u.1).sum) + _ = _
      omega
    · rw [if_neg c, List.nil_append]
      omega
theorem unt_top (size : Int) : ∀ (A : List (Int × Int)) (a : Int), (∀ u ∈ A, u.1 ≤ size) → ∀ v ∈ unt a size A, v.2 ≤ size
  | [], a, _, v, hv => by
    unfold unt at hv
    split at hv
    · rw [List.mem_singleton.mp hv]
      exact Int.le_refl _
    · cases hv
  | u :: r, a, h, v, hv => by
    have hv' : v ∈ (if a < u.1 then [(a, u.1)] else []) ++ unt u.2 size r := hv
    rcases List.mem_append.mp hv' with k | k
    · split at k
      · rw [List.mem_singleton.mp k]
        exact h u (List.mem_cons_self ..)
      · cases k
    · exact unt_top size r u.2 (fun w hw => h w (List.mem_cons_of_mem _ hw)) v k
theorem tb_one {f : Int → Nat} {u : Int × Int} (h : u.1 < u.2) : tb (u.1, txtF f u.1 u.2) = u := by
  unfold tb
  dsimp only
  rw [txtF_len]
  exact Prod.ext rfl (by dsimp only; omega)
def wide (A : List (Int × Int)) : Prop := ∀ u ∈ A, u.2 - u.1 ≤ 20000
def inR (lo : Int) (A : List (Int × Int)) : Prop := 0 ≤ lo ∧ ∀ u ∈ A, lo ≤ u.1 ∧ u.2 ≤ lo + 20000
theorem inR.wide {lo : Int} {A : List (Int × Int)} (h : inR lo A) : wide A := fun u hu => by
  have := h.2 u hu
  omega
theorem inR.pos {lo : Int} {A : List (Int × Int)} (h : inR lo A) : ∀ u ∈ A, 0 ≤ u.1 := fun u hu => by
  have := h.2 u hu
  have := h.1
  omega
theorem rng_of {U : List (Int × Int)} {lo hi : Int} (h : ∀ x, cov U x → lo ≤ x ∧ x < hi) {u : Int × Int} (hu : u ∈ U) (hl : u.1 < u.2) : lo ≤ u.1 ∧ u.2 ≤ hi := by
  have a := h u.1 ⟨u, hu, Int.le_refl _, hl⟩
  have b := h (u.2 - 1) ⟨u, hu, by omega, by omega⟩
  omega
open Lx (Tu DatO rTu rsC rs0 sortD sortD_perm sortD_sorted forD M Ex atD)
def tu2 (p : Int × Int) : Tu (Int × Int × Unit) := ⟨p.1, p.2, ()⟩
def un2 (p : Tu (Int × Int × Unit)) : Int × Int := (p.r.1, p.r.2.1)
def tu3 (p : Nat × Int × Int) : Tu (Int × Int × Int × Unit) := ⟨(p.1 : Int), p.2.1, p.2.2, ()⟩
def tuP (p : Prt) : Tu (Int × Str × Unit) := ⟨p.1, p.2, ()⟩
def unP (p : Tu (Int × Str × Unit)) : Prt := (p.r.1, p.r.2.1)
def unS (p : Tu (Option Int × Option Int × Unit)) : Spn := (p.r.1, p.r.2.1)
def tuS (p : Spn) : Tu (Option Int × Option Int × Unit) := ⟨p.1, p.2, ()⟩
theorem un2_tu2 (l : List (Int × Int)) : (l.map tu2).map un2 = l := by rw [List.map_map]; exact List.map_id' l
theorem unP_tuP (l : List Prt) : (l.map tuP).map unP = l := by rw [List.map_map]; exact List.map_id' l
theorem unS_tuS (l : List Spn) : (l.map tuS).map unS = l := by rw [List.map_map]; exact List.map_id' l
theorem tu2_un2 (l : List (Tu (Int × Int × Unit))) : (l.map un2).map tu2 = l := by rw [List.map_map]; exact List.map_id' l
theorem tuP_unP (l : List (Tu (Int × Str × Unit))) : (l.map unP).map tuP = l := by rw [List.map_map]; exact List.map_id' l
theorem tuS_unS (l : List (Tu (Option Int × Option Int × Unit))) : (l.map unS).map tuS = l := by rw [List.map_map]; exact List.map_id' l
/-- a loop that reckons -/
theorem forD_fold {α γ S : Type} {body : α → S → M γ S S} {rt : γ → Prop} {nx : S → Prop} {X : Ex → Prop} (I : Nat → S → Prop) (f : S → α → S) (N : Nat) : ∀ (xs : List α) (i : Nat) (s : S), i + xs.length ≤ N → I i s → (∀ x ∈ xs, ∀ i s, i < N → I i s → I (i + 1) (f s x) ∧ ∀ k : S → Prop, k (f s x) → body x s rt k nx k X) → nx (xs.foldl f s) → forD body rt nx X xs s
  | [], _, _, _, _, _, hn => hn
  | x :: xs, i, s, hl, h, hb, hn => by
    rw [List.length_cons] at hl
    obtain ⟨h1, h2⟩ := hb x (List.mem_cons_self ..) i s (by omega) h
    exact h2 _ (forD_fold I f N xs (i + 1) (f s x) (by omega) h1 (fun y hy => hb y (List.mem_cons_of_mem _ hy)) hn)
theorem sort_srt {K : PySem.W.Frag} (xs : List (Tu (Int × Int × Unit))) : (sortD (DatO.enc K (rTu K (rsC Lx.rI (rsC Lx.rI rs0)))) xs).map un2 = srt (xs.map un2) := by
  refine perm_sorted_eq (r := fun p q => leII p q = true) leII_anti _ _ ?_ (srt_sorted _) ?_
  · refine List.pairwise_map.mpr ((sortD_sorted _ xs).imp fun {a b} h => ?_)
    have h' : PySem.W.dataLe false (fun b : Tu (Int × Int × Unit) => .tuple [.int b.r.1, .int b.r.2.1]) a b = true := h
    rw [PySem.W.dataLe_ii (fun b : Tu (Int × Int × Unit) => b.r.1) (fun b => b.r.2.1)] at h'
    exact h'
  · exact ((sortD_perm _ xs).map _).trans (srt_perm _).symm
/-- what a loop that merges has, turned about -/
def stepM (s : List (Tu (Int × Int × Unit))) (x : Tu (Int × Int × Unit)) : List (Tu (Int × Int × Unit)) := (stepR (s.map un2).reverse (un2 x)).reverse.map tu2
theorem foldM : ∀ (xs s : List (Tu (Int × Int × Unit))), xs.foldl stepM s = (((xs.map un2).foldl stepR (s.map un2).reverse).reverse).map tu2
  | [], s => by
    show s = _
    rw [List.map_nil, List.foldl_nil, List.reverse_reverse, tu2_un2]
  | x :: xs, s => by
    rw [List.foldl_cons, foldM xs, List.map_cons, List.foldl_cons]
    unfold stepM
    rw [un2_tu2, List.reverse_reverse]
theorem atI_last {α : Type} (s : List α) (x : α) : atI (s ++ [x]) (-1) = some x := by
  unfold atI
  rw [List.length_append, List.length_singleton, ixN_last]
  simp
open Lx (whileD D)
/-- a loop by what was walked -/
theorem forD_preA {α γ S : Type} {body : α → S → M γ S S} {rt : γ → Prop} {nx : S → Prop} {X : Ex → Prop} (xs0 : List α) (I : List α → S → Prop) (hb : ∀ pre x post s, xs0 = pre ++ x :: post → I pre s → ∀ k : S → Prop, (∀ s', I (pre ++ [x]) s' → k s') → body x s rt k nx k X) (hn : ∀ s, I xs0 s → nx s) : ∀ (xs pre : List α) (s : S), xs0 = pre ++ xs → I pre s → forD body rt nx X xs s
  | [], pre, s, e, h => hn s (by rw [List.append_nil] at e; rw [e]; exact h)
  | x :: xs, pre, s, e, h => hb pre x xs s e h _ fun s' h' => forD_preA xs0 I hb hn xs (pre ++ [x]) s' (by rw [e, List.append_assoc]; rfl) h'
theorem forD_pre {α γ S : Type} {body : α → S → M γ S S} {rt : γ → Prop} {nx : S → Prop} {X : Ex → Prop} {xs0 : List α} {s : S} (I : List α → S → Prop) (h : I [] s) (hb : ∀ pre x post s, xs0 = pre ++ x :: post → I pre s → ∀ k : S → Prop, (∀ s', I (pre ++ [x]) s' → k s') → body x s rt k nx k X) (hn : ∀ s, I xs0 s → nx s) : forD body rt nx X xs0 s := forD_preA xs0 I hb hn xs0 [] s rfl h
/-- a while with a measure -/
theorem whileD_rec {γ S : Type} {test : S → D Bool} {body : S → M γ S S} {rt : γ → Prop} {nx : S → Prop} {X : Ex → Prop} (μ : S → Nat) (I : S → Prop) (h : ∀ s, I s → ∀ k : S → Prop, (∀ s', I s' → μ s' < μ s → k s') → test s (fun b => if b = true then body s rt k nx k X else nx s) X) : ∀ n s, μ s < n → I s → whileD test body rt nx X n s
  | 0, s, hl, _ => absurd hl (Nat.not_lt_zero _)
  | n + 1, s, hl, hI => h s hI _ fun s' hI' hm => whileD_rec μ I h n s' (by omega) hI'
/-- the loop of untold_by -/
def stepU (s : List (Tu (Int × Int × Unit)) × Int) (x : Tu (Int × Int × Unit)) : List (Tu (Int × Int × Unit)) × Int := (s.1 ++ (if s.2 < x.r.1 then [⟨s.2, x.r.1, ()⟩] else []), x.r.2.1)
theorem foldU (size : Int) : ∀ (A : List (Int × Int)) (s : List (Tu (Int × Int × Unit)) × Int), (((A.map tu2).foldl stepU s).1 ++ (if ((A.map tu2).foldl stepU s).2 < size then [tu2 (((A.map tu2).foldl stepU s).2, size)] else [])) = s.1 ++ (unt s.2 size A).map tu2
  | [], s => by
    show s.1 ++ _ = s.1 ++ List.map tu2 (if s.2 < size then [(s.2, size)] else [])
    show s.1 ++ (if s.2 < size then [tu2 (s.2, size)] else []) = _
    split <;> rfl
  | u :: A, s => by
    rw [List.map_cons, List.foldl_cons, foldU size A]
    show (s.1 ++ (if s.2 < u.1 then [tu2 (s.2, u.1)] else [])) ++ _ = s.1 ++ List.map tu2 ((if s.2 < u.1 then [(s.2, u.1)] else []) ++ unt u.2 size A)
    rw [List.append_assoc, List.map_append]
    congr 1
    congr 1
    split <;> rfl
theorem mx_max (a b : Int) : mx a b = max a b := by unfold mx; split <;> omega
theorem mn_min (a b : Int) : mn a b = min a b := by unfold mn; split <;> omega
end Ls
/-! spans as they are written, without any heap -/
namespace Ls
open PySem PySem.Spec PyProof.Rows L2 TL
open Lw
def nT (n : Int) : Str := Str.ofString (toString n)
def nS : Option Int → Str
  | none => ""
  | some n => nT n
theorem tl_nT (n : Nat) : (nT (n : Int)).cps.toList = numL n := tl_num n
theorem numL_head : ∀ n : Nat, 0 < n → ∃ c r, numL n = c :: r ∧ c ≠ 48
  | n, h => by
    by_cases h10 : n < 10
    · rw [numL_lt h10]
      exact ⟨48 + n, [], rfl, by omega⟩
    · have hd : n / 10 < n := Nat.div_lt_self h (by decide)
      obtain ⟨c, r, e, hc⟩ := numL_head (n / 10) (by omega)
      rw [numL_step (by omega), e]
      exact ⟨c, r ++ [48 + n % 10], rfl, hc⟩
theorem len_nT {n : Nat} (h : n < 10 ^ 60) : (nT (n : Int)).length ≤ 60 := by
  have := numL_len (k := 60) (by decide) h
  have e := My.len_tl (nT (n : Int))
  rw [tl_nT] at e
  omega
theorem dig_in {c : Nat} (h : 48 ≤ c ∧ c ≤ 57) : c ∈ ("0123456789" : Str).cps.toList := by
  have e : ("0123456789" : Str).cps.toList = [48, 49, 50, 51, 52, 53, 54, 55, 56, 57] := by decide
  rw [e]
  obtain ⟨h1, h2⟩ := h
  have : c = 48 ∨ c = 49 ∨ c = 50 ∨ c = 51 ∨ c = 52 ∨ c = 53 ∨ c = 54 ∨ c = 55 ∨ c = 56 ∨ c = 57 := by omega
  rcases this with rfl | rfl | rfl | rfl | rfl | rfl | rfl | rfl | rfl | rfl <;> decide
theorem fig_nT {n : Nat} (h : n < 10 ^ 60) : figB (nT (n : Int)) = true := by
  have hl := len_nT h
  have e := My.len_tl (nT (n : Int))
  have hne := numL_ne n
  rw [tl_nT] at e
  have h1 : 1 ≤ (nT (n : Int)).length := by
    cases hh : numL n with
    | nil => exact absurd hh hne
    | cons a r =>
      rw [hh, List.length_cons] at e
      omega
  unfold figB ofB
  rw [decide_eq_true (show (1 : Int) ≤ ((nT (n : Int)).length : Int) by omega), decide_eq_true (show ((nT (n : Int)).length : Int) ≤ 60 by omega)]
  have h2 : inB "0123456789" (nT (n : Int)) = true := by
    unfold inB
    rw [tl_nT, List.all_eq_true]
    intro c hc
    exact decide_eq_true (dig_in (numL_digits n c hc))
  rw [h2]
  show nought (nT (n : Int)) = true
  unfold nought
  by_cases h0 : n = 0
  · subst h0
    decide
  · obtain ⟨c, r, ec, hc⟩ := numL_head n (by omega)
    rw [tl_nT, ec]
    rw [decide_eq_false (fun z : (c :: r).head? = some 48 => hc (Option.some.inj z)), Bool.not_false, Bool.or_true]
theorem int_nT {n : Nat} (h : n < 10 ^ 60) : intText? (nT (n : Int)) = some (n : Int) := int_num (by have := numL_len (k := 60) (by decide) h; omega)
theorem nT_ne (n : Nat) : ¬ nT (n : Int) = Str.ofString "" := fun e => by
  have e1 := congrArg (fun s : Str => s.cps.toList) e
  exact numL_ne n ((tl_nT n).symm.trans (e1.trans (by decide)))
theorem asc_numL {n c : Nat} (h : c ∈ numL n) : 48 ≤ c ∧ c ≤ 57 := numL_digits n c h
/-! ### words of spans -/
def sml (x : Option Int) : Prop := ∀ n, x = some n → 0 ≤ n ∧ n < 10 ^ 60
def good : Spn → Prop
  | (none, none) => False
  | (none, some n) => 1 ≤ n ∧ n < 10 ^ 60
  | (some a, none) => 0 ≤ a ∧ a < 10 ^ 60
  | (some a, some b) => 0 ≤ a ∧ a < b ∧ b < 10 ^ 60
theorem good_sml {sp : Spn} (h : good sp) : sml sp.1 ∧ sml sp.2 := by
  obtain ⟨a, b⟩ := sp
  cases a <;> cases b <;> simp only [good] at h <;> refine ⟨fun n e => ?_, fun n e => ?_⟩ <;> cases e <;> omega
theorem good_ends {sp : Spn} (h : good sp) : endsB sp.1 sp.2 = true := by
  obtain ⟨a, b⟩ := sp
  cases a <;> cases b <;> simp only [good] at h
  · exact decide_eq_true (by omega)
  · rfl
  · exact decide_eq_true (by omega)
def word (sp : Spn) : Str := nS sp.1 ++ ".." ++ nS sp.2
theorem nS_facts {x : Option Int} (h : sml x) : (nS x).length ≤ 60 ∧ endB (nS x) = true ∧ endT (nS x) = x ∧ ∀ c ∈ (nS x).cps.toList, 48 ≤ c ∧ c ≤ 57 := by
  cases x with
  | none => exact ⟨by decide, by decide, by decide, fun c hc => nomatch (show c ∈ ([] : List Nat) from hc)⟩
  | some i =>
    obtain ⟨h0, h1⟩ := h i rfl
    obtain ⟨n, rfl⟩ : ∃ n : Nat, i = n := ⟨i.toNat, by omega⟩
    have hn : n < 10 ^ 60 := by omega
    refine ⟨len_nT hn, ?_, ?_, fun c hc => ?_⟩
    · unfold endB
      rw [show figB (nS (some (n : Int))) = true from fig_nT hn, Bool.or_true]
    · show (if nT (n : Int) = Str.ofString "" then none else intText? (nT (n : Int))) = some (n : Int)
      rw [if_neg (nT_ne n)]
      exact int_nT hn
    · have hc' : c ∈ (nT (n : Int)).cps.toList := hc
      rw [tl_nT] at hc'
      exact asc_numL hc'
theorem word_len {sp : Spn} (h : good sp) : (word sp).length ≤ 122 := by
  have h1 := (nS_facts (good_sml h).1).1
  have h2 := (nS_facts (good_sml h).2).1
  have h3 : (".." : Str).length = 2 := by decide
  unfold word
  rw [My.len_app, My.len_app]
  omega
theorem app_tl (a b : Str) : (a ++ b).cps.toList = a.cps.toList ++ b.cps.toList := Array.toList_append
theorem word_tl (sp : Spn) : (word sp).cps.toList = (nS sp.1).cps.toList ++ [46, 46] ++ (nS sp.2).cps.toList := by
  unfold word
  rw [app_tl, app_tl, show (".." : Str).cps.toList = [46, 46] by decide]
theorem word_signs {sp : Spn} (h : good sp) : ∀ c ∈ (word sp).cps.toList, c = 46 ∨ (48 ≤ c ∧ c ≤ 57) := by
  intro c hc
  rw [word_tl] at hc
  rcases List.mem_append.mp hc with hc | hc
  · rcases List.mem_append.mp hc with hc | hc
    · exact .inr ((nS_facts (good_sml h).1).2.2.2 c hc)
    · simp only [List.mem_cons, List.not_mem_nil, or_false, or_self] at hc
      exact .inl hc
  · exact .inr ((nS_facts (good_sml h).2).2.2.2 c hc)
theorem span_word {sp : Spn} (h : good sp) : spanT (word sp) = some (tuS sp) := by
  obtain ⟨h1, h2, h3, h4⟩ := nS_facts (good_sml h).1
  obtain ⟨k1, k2, k3, k4⟩ := nS_facts (good_sml h).2
  have e : Txt.partition (word sp) ".." = (nS sp.1, (".." : Str), nS sp.2) := partition_app (s := 46) (S := [46]) (by decide) fun hm => by
    have := h4 46 hm
    omega
  rw [span_found (by decide) e, h2, k2, h3, k3, good_ends h]
  rfl
/-! ### their text -/
def txt (sps : List Spn) : Str := Txt.join "," (sps.map word)
theorem txt_nil : txt [] = "" := by
  unfold txt
  rw [join_eq]
  decide
theorem txt_split {sps : List Spn} (hne : sps ≠ []) (h : ∀ sp ∈ sps, good sp) : Txt.split (txt sps) "," = sps.map word :=
  split_join (s := 44) (S := []) (by decide) (by decide +kernel) (fun e => hne (List.map_eq_nil_iff.mp e)) fun p hp hm => by
    obtain ⟨sp, hsp, rfl⟩ := List.mem_map.mp hp
    have := word_signs (h sp hsp) 44 hm
    omega
theorem txt_len {sps : List Spn} (h : ∀ sp ∈ sps, good sp) : (txt sps).length ≤ sps.length * 123 := by
  have h1 := My.join_len "," (sps.map word)
  have h2 := My.sum_le (b := 122) (sps.map word) fun z hz => by
    obtain ⟨sp, hsp, rfl⟩ := List.mem_map.mp hz
    exact word_len (h sp hsp)
  have h3 : ("," : Str).length = 1 := by decide
  rw [List.length_map] at h1 h2
  rw [h3] at h1
  unfold txt
  omega
theorem joinL_mem {S : List Nat} : ∀ {ps : List (List Nat)} {c : Nat}, c ∈ joinL S ps → c ∈ S ∨ ∃ p ∈ ps, c ∈ p
  | [], c, h => nomatch h
  | [p], c, h => .inr ⟨p, List.mem_cons_self .., h⟩
  | p :: q :: r, c, h => by
    have h' : c ∈ p ++ (S ++ joinL S (q :: r)) := h
    rcases List.mem_append.mp h' with h | h
    · exact .inr ⟨p, List.mem_cons_self .., h⟩
    · rcases List.mem_append.mp h with h | h
      · exact .inl h
      · rcases joinL_mem h with h | ⟨x, hx, h⟩
        · exact .inl h
        · exact .inr ⟨x, List.mem_cons_of_mem _ hx, h⟩
theorem txt_asc {sps : List Spn} (h : ∀ sp ∈ sps, good sp) : ∀ c ∈ (txt sps).cps.toList, c < 128 := by
  intro c hc
  have e : (txt sps).cps.toList = joinL (tl ",") ((sps.map word).map tl) := by
    have := tl_join "," (sps.map word)
    rw [← join_eq] at this
    exact this
  rw [e] at hc
  rcases joinL_mem hc with h1 | ⟨p, hp, h1⟩
  · exact (by decide : ∀ c ∈ tl ",", c < 128) c h1
  · obtain ⟨z, hz, rfl⟩ := List.mem_map.mp hp
    obtain ⟨sp, hsp, rfl⟩ := List.mem_map.mp hz
    have := word_signs (h sp hsp) c h1
    omega
theorem txt_ne {sp : Spn} {sps : List Spn} : ¬ txt (sp :: sps) = Str.ofString "" := fun e => by
  have e0 : (txt (sp :: sps)).cps.toList = joinL (tl ",") (((sp :: sps).map word).map tl) := by
    have := tl_join "," ((sp :: sps).map word)
    rw [← join_eq] at this
    exact this
  have e1 := congrArg (fun s : Str => s.cps.toList) e
  have e2 : joinL (tl ",") (tl (word sp) :: (sps.map word).map tl) = [] := e0.symm.trans (e1.trans (by decide))
  have e3 : tl (word sp) = [] := by
    cases hh : (sps.map word).map tl with
    | nil =>
      rw [hh] at e2
      exact e2
    | cons q r =>
      rw [hh] at e2
      have e4 : tl (word sp) ++ (tl "," ++ joinL (tl ",") (q :: r)) = [] := e2
      exact (List.append_eq_nil_iff.mp e4).1
  have e5 : (word sp).cps.toList = [] := e3
  rw [word_tl] at e5
  simp at e5
theorem log_small {i : Int} (h0 : 0 ≤ i) (h1 : i < 10 ^ 60) : i.natAbs.log2 < 1920 := by
  by_cases hz : i.natAbs = 0
  · rw [hz]
    decide
  · rw [Nat.log2_lt hz]
    have h3 : i.natAbs < 10 ^ 60 := by omega
    exact Nat.lt_of_lt_of_le h3 (Nat.le_trans (show 10 ^ 60 ≤ 2 ^ 200 by decide) (Nat.pow_le_pow_right (by decide) (by decide)))
theorem emp_app (z : Str) : Str.empty ++ z = z := PyProof.Rows.ext_toList (by rw [app_tl]; rfl)

theorem emp_l (z : Str) : Str.ofString "" ++ z = z := PyProof.Rows.ext_toList (by rw [app_tl]; rfl)
theorem emp_r (z : Str) : z ++ Str.ofString "" = z := PyProof.Rows.ext_toList (by rw [app_tl, show (Str.ofString "").cps.toList = [] by decide, List.append_nil])
/-- the text of spans read -/
theorem spans_txt {sps : List Spn} (h : ∀ sp ∈ sps, good sp) : spansW (txt sps) = (sps.map tuS).map some := by
  unfold spansW
  cases sps with
  | nil => rw [if_pos txt_nil]; rfl
  | cons sp r =>
    rw [if_neg txt_ne, txt_split (by simp) h, List.map_map, List.map_map]
    refine List.map_congr_left fun s hs => ?_
    exact span_word (h s hs)
theorem rd_txt {sps : List Spn} (h : ∀ sp ∈ sps, good sp) {P : List SpT → Prop} {X : Lx.Ex → Prop} (hp : P (sps.map tuS)) : rdSp (txt sps) P X := by
  refine ⟨fun ss e => ?_, fun i e => ?_⟩
  · rw [spans_txt h] at e
    have := congrArg (List.filterMap id) e
    rw [filt_some, filt_some] at this
    rw [← this]
    exact hp
  · rw [spans_txt h, find_none] at e
    cases e
theorem dataLe_is {B : Type} (x : B → Int) (y : B → Str) (p q : B) (h : PySem.W.dataLe false (fun b => .tuple [.int (x b), .str (y b)]) p q = true) : x p ≤ x q := by
  have e : PySem.W.dataLt (.tuple [.int (x q), .str (y q)]) (.tuple [.int (x p), .str (y p)]) = false := by
    have h' : (!PySem.W.dataLt (.tuple [.int (x q), .str (y q)]) (.tuple [.int (x p), .str (y p)])) = true := h
    simpa using h'
  rw [PySem.W.dataLt_pair (by simp [PySem.W.alike]) (by simp [PySem.W.alike]), PySem.W.dataLt_int] at e
  simp only [PyData.eqv, beq_iff_eq] at e
  by_cases h1 : x q = x p
  · omega
  · rw [if_neg h1] at e
    have := of_decide_eq_false e
    omega
open Lx (Tu DatO rTu rsC rs0 sortD sortD_perm sortD_sorted) in
theorem sort_parts {K : PySem.W.Frag} (xs : List (Tu (Int × Str × Unit))) : (sortD (DatO.enc K (rTu K (rsC Lx.rI (rsC Lx.rS rs0)))) xs).Pairwise fun a b => a.r.1 ≤ b.r.1 := (sortD_sorted _ xs).imp fun {a b} h => dataLe_is (fun b : Tu (Int × Str × Unit) => b.r.1) (fun b => b.r.2.1) a b h
end Ls
namespace Lx
open PySem PySem.Spec PyProof.Rows L2 TL
open My (Asc)
section
variable {Z : Px} {j : Bool} {Γ : List Cell} {α β γ δ κ : Type} {K : PySem.W.Frag}
/-! ### dicts that do not change -/
def PKV (kf : κ → Key) (B : Rp β) (I : Hp) : Key × V → κ × β → Prop := fun p q => p.1 = kf q.1 ∧ B.rep I p.2 q.2
def rK (kf : κ → Key) (B : Rp β) : Rp (List (κ × β)) := ⟨fun J I v d => ∃ a kvs, v = .ref a ∧ J a = some (.dK kvs) ∧ Paired (PKV kf B I) kvs d, fun s t ⟨a, kvs, e, h, p⟩ => ⟨a, kvs, e, s _ _ h, Paired.mono (fun _ _ h => ⟨h.1, B.mn t h.2⟩) p⟩⟩
def valD [DecidableEq κ] (d : List (κ × β)) (k : κ) : Option β := (d.find? fun q => decide (q.1 = k)).map (·.2)
def putD [DecidableEq κ] (d : List (κ × β)) (k : κ) (v : β) : List (κ × β) := if (d.any fun q => decide (q.1 = k)) = true then d.map (fun q => if q.1 = k then (q.1, v) else q) else d ++ [(k, v)]
def mergeD [DecidableEq κ] (d more : List (κ × β)) : List (κ × β) := more.foldl (fun acc q => putD acc q.1 q.2) d
theorem valD_cons [DecidableEq κ] (q : κ × β) (d : List (κ × β)) (k : κ) : valD (q :: d) k = if q.1 = k then some q.2 else valD d k := by
  unfold valD
  rw [List.find?_cons]
  by_cases h : q.1 = k
  · rw [decide_eq_true h, if_pos h]
    rfl
  · rw [decide_eq_false h, if_neg h]
theorem val_prd [DecidableEq κ] {kf : κ → Key} (inj : ∀ a b, kf a = kf b → a = b) {B : Rp β} {I : Hp} (k : κ) : ∀ {kvs : List (Key × V)} {d : List (κ × β)}, Paired (PKV kf B I) kvs d → (∃ v b, valV kvs (kf k) = some v ∧ valD d k = some b ∧ B.rep I v b) ∨ (valV kvs (kf k) = none ∧ valD d k = none)
  | _, _, .nil => .inr ⟨rfl, rfl⟩
  | p :: kvs, q :: d, .cons h t => by
    rw [valD_cons]
    by_cases e : q.1 = k
    · rw [if_pos e, valV_pos (h.1.trans (congrArg kf e))]
      exact .inl ⟨_, _, rfl, rfl, h.2⟩
    · rw [if_neg e, valV_neg (fun z => e (inj _ _ (h.1.symm.trans z)))]
      exact val_prd inj k t
theorem any_prd [DecidableEq κ] {kf : κ → Key} (inj : ∀ a b, kf a = kf b → a = b) {B : Rp β} {I : Hp} (k : κ) : ∀ {kvs : List (Key × V)} {d : List (κ × β)}, Paired (PKV kf B I) kvs d → (kvs.any fun kv => decide (kv.1 = kf k)) = d.any fun q => decide (q.1 = k)
  | _, _, .nil => rfl
  | p :: kvs, q :: d, .cons h t => by
    rw [List.any_cons, List.any_cons, any_prd inj k t]
    congr 1
    exact decide_eq_decide.mpr ⟨fun z => inj _ _ (h.1.symm.trans z), fun z => h.1.trans (congrArg kf z)⟩
theorem put_prd [DecidableEq κ] {kf : κ → Key} (inj : ∀ a b, kf a = kf b → a = b) {B : Rp β} {I : Hp} {k : κ} {v : V} {b : β} (r : B.rep I v b) {kvs : List (Key × V)} {d : List (κ × β)} (h : Paired (PKV kf B I) kvs d) : Paired (PKV kf B I) (putK kvs (kf k) v) (putD d k b) := by
  unfold putK putD
  rw [any_prd inj k h]
  split
  · rename_i _ c
    clear c
    induction h with
    | nil => exact .nil
    | cons h t ih =>
      refine .cons ?_ ih
      rename_i p q ps qs
      show PKV kf B I (if p.1 = kf k then (p.1, v) else p) (if q.1 = k then (q.1, b) else q)
      by_cases e : q.1 = k
      · rw [if_pos e, if_pos (h.1.trans (congrArg kf e))]
        exact ⟨h.1, r⟩
      · rw [if_neg e, if_neg (fun z => e (inj _ _ (h.1.symm.trans z)))]
        exact h
  · exact paired_app h (.cons ⟨rfl, r⟩ .nil)
theorem merge_prd [DecidableEq κ] {kf : κ → Key} (inj : ∀ a b, kf a = kf b → a = b) {B : Rp β} {I : Hp} : ∀ {more : List (Key × V)} {dm : List (κ × β)} {kvs : List (Key × V)} {d : List (κ × β)}, Paired (PKV kf B I) more dm → Paired (PKV kf B I) kvs d → Paired (PKV kf B I) (mergeK kvs more) (mergeD d dm)
  | _, _, _, _, .nil, h => h
  | p :: more, q :: dm, kvs, d, .cons h t, hd => by
    show Paired _ (mergeK (putK kvs p.1 p.2) more) (mergeD (putD d q.1 q.2) dm)
    rw [h.1]
    exact merge_prd inj t (put_prd inj h.2 hd)
/-- what may be a key -/
class KeyR {κ : Type} (A : Rp κ) (kf : outParam (κ → Key)) : Prop where
  is : ∀ J I v a, A.top J I v a → v = kV (kf a)
  inj : ∀ a b, kf a = kf b → a = b
instance : KeyR rI Sum.inl := ⟨fun _ _ _ _ h => h, fun _ _ h => Sum.inl.inj h⟩
instance : KeyR rS Sum.inr := ⟨fun _ _ _ _ h => h.1, fun _ _ h => Sum.inr.inj h⟩
/-! ### dict(xs) -/
def rDict (K : PySem.W.Frag) : List V → Hp → VK → Prop := fun xs H Q => ∃ (a : Addr) (ps : List Addr) (kvs : List (Key × V)), xs = [.ref a] ∧ SqL K H a (ps.map V.ref) ∧ Paired (fun p kv => SqT K H p [kV kv.1, kv.2]) ps kvs ∧ ∀ p, H p = none → Q (.ref p) (upd H p (.dK (mergeK [] kvs)))
theorem dictK {X : Cx} (K : PySem.W.Frag) (h : X.K = K) (hc : X.calm = true) : CallR X (.type "dict") (rDict K) := by
  subst h
  exact call_dictP hc
theorem prs_of {A : Rp κ} {B : Rp β} {kf : κ → Key} [kr : KeyR A kf] {I : Hp} : ∀ {vs : List V} {xs : List (Tu (κ × β × Unit))}, Paired ((rTu K (rsC A (rsC B rs0))).rep I) vs xs → ∃ (ps : List Addr) (kvs : List (Key × V)), vs = ps.map V.ref ∧ Paired (fun p kv => SqT K I p [kV kv.1, kv.2]) ps kvs ∧ Paired (PKV kf B I) kvs (xs.map fun t => (t.r.1, t.r.2.1))
  | _, _, .nil => ⟨[], [], rfl, .nil, .nil⟩
  | _, _, .cons h t => by
    obtain ⟨ps, kvs, e, h1, h2⟩ := prs_of t
    obtain ⟨a, us, e1, q, v1, r1, f1, g1, v2, r2, f2, g2, g3⟩ := h
    cases (show r2 = [] from g3)
    subst f2 f1
    rw [kr.is _ _ _ _ g1] at q
    exact ⟨a :: ps, (_, v2) :: kvs, by rw [e1, e]; rfl, .cons q h1, .cons ⟨rfl, g2⟩ h2⟩
theorem ro_dict [DecidableEq κ] {A : Rp κ} {B : Rp β} {kf : κ → Key} [kr : KeyR A kf] : ROA (rDict K) (rsC (rL (rTu K (rsC A (rsC B rs0)))) rs0) (rK kf B) (fun b => D.pure (mergeD [] (b.1.map fun t => (t.r.1, t.r.2.1)))) := fun J I H vs b Q P X sj s ⟨v, r, e, ⟨p, us, e1, e2, l, pr⟩, h2⟩ hk q => by
  cases (show r = [] from h2)
  subst e1
  obtain ⟨ps, kvs, f1, f2, f3⟩ := prs_of (K := K) (A := A) (B := B) pr
  subst f1
  refine ⟨p, ps, kvs, e, SqL.of (s _ _ e2), Paired.mono (fun _ _ h => Same.seqT (sj.trans s) h) f2, fun n hn => ?_⟩
  have g := Gw.new1 (sj.trans s) hn (.dK (mergeK [] kvs))
  exact q _ _ _ _ hk g ⟨n, _, rfl, upd_same, Paired.mono (fun _ _ h => ⟨h.1, B.mn g.i h.2⟩) (merge_prd kr.inj f3 .nil)⟩
theorem hu1 {k : Nat} {A : Around} (hr : Room k A) : A.units + 1 < cLine := by
  have := hr.un
  omega
/-- what is never none -/
class NoN (B : Rp β) : Prop where
  nn : ∀ J I v b, B.top J I v b → v ≠ .non
instance : NoN rI := ⟨fun _ _ v a h e => by rw [show v = .int a from h] at e; cases e⟩
instance : NoN rS := ⟨fun _ _ v a h e => by rw [h.1] at e; cases e⟩
instance : NoN rB := ⟨fun _ _ v a h e => by rw [show v = .bl a from h] at e; cases e⟩
/-- d.get(k) -/
theorem se_dget1 [DecidableEq κ] {A : Rp κ} {B : Rp β} {kf : κ → Key} [kr : KeyR A kf] [nb : NoN B] {td tk : TE} {md : D (List (κ × β))} {mk : D κ} (hd : SE Z true Γ td (rK kf B) md) (hk : SE Z true Γ tk A mk) : SE Z j Γ (tDGet1 td tk) (rO B) (D.bind md fun d => D.bind mk fun k => D.pure (valD d k)) := fun φ σ w H Q P X hn hA hm kk x =>
  hd φ σ w H _ _ X hn hA hm (fun d v I1 H1 pd s1 rd => by
    obtain ⟨a, kvs, e1, e2, pr⟩ := rd
    refine ⟨a, e1, .inl ⟨kvs, .inl (tp_sub (j := true) s1.sub _ _ e2)⟩, hk φ σ (w.to I1) H1 _ _ X hn (hA.step s1) pd (fun k y I2 H2 pk s2 rk => ?_) (xg s1 x)⟩
    have e3 := tp_sub (j := true) s2.sub _ _ (tp_go (w := w.to I1) (j := true) s2 _ _ e2)
    rw [kr.is _ _ _ _ rk]
    refine ⟨_, DGet.k e3, ?_⟩
    have g := s1.trans s2
    have pk : P (valD d k) := pk
    rcases val_prd kr.inj k pr with ⟨u, b, q1, q2, q3⟩ | ⟨q1, q2⟩
    · rw [q1]
      rw [q2] at pk
      exact kk (some b) u I2 H2 pk g ⟨nb.nn _ _ _ _ q3, B.up (i_tp (w := w.to I2) j (hA.step g).go) (B.mn s2.i q3)⟩
    · rw [q1]
      rw [q2] at pk
      exact kk none .non I2 H2 pk g rfl) x
theorem mergeD_val [DecidableEq κ] (k : κ) (v : β) : ∀ (ps d : List (κ × β)), (∀ p ∈ ps, p.1 = k → p.2 = v) → (valD d k = some v ∨ (k, v) ∈ ps) → valD (mergeD d ps) k = some v
  | [], d, _, h => h.elim id fun h => nomatch h
  | p :: ps, d, hp, h => by
    show valD (mergeD (putD d p.1 p.2) ps) k = some v
    have put : ∀ (d : List (κ × β)), valD (putD d p.1 p.2) k = if p.1 = k then some p.2 else valD d k := fun d => by
      unfold putD
      split
      · rename_i c
        induction d with
        | nil => cases c
        | cons q r ih =>
          rw [List.map_cons, valD_cons, valD_cons]
          by_cases e : q.1 = p.1
          · rw [if_pos e]
            dsimp only
            by_cases e2 : p.1 = k
            · rw [if_pos (e.trans e2), if_pos e2]
            · rw [if_neg (fun z => e2 (e.symm.trans z)), if_neg e2, if_neg (fun z => e2 (e.symm.trans z))]
              by_cases c2 : (r.any fun q => decide (q.1 = p.1)) = true
              · rw [ih c2, if_neg e2]
              · have em : r.map (fun q => if q.1 = p.1 then (q.1, p.2) else q) = r := by
                  refine (List.map_congr_left fun y hy => ?_).trans (List.map_id' r)
                  rw [if_neg]
                  intro z
                  exact c2 (List.any_eq_true.mpr ⟨y, hy, decide_eq_true z⟩)
                rw [em]
          · rw [if_neg e]
            rw [List.any_cons, decide_eq_false e, Bool.false_or] at c
            rw [ih c]
            by_cases e2 : q.1 = k
            · rw [if_pos e2, if_neg (fun z => e (e2.trans z.symm)), if_pos e2]
            · rw [if_neg e2, if_neg e2]
      · rename_i c
        induction d with
        | nil =>
          show valD [(p.1, p.2)] k = _
          rw [valD_cons]
        | cons q r ih =>
          rw [List.any_cons, Bool.or_eq_true, not_or] at c
          rw [List.cons_append, valD_cons, valD_cons, ih c.2]
          by_cases e2 : q.1 = k
          · rw [if_pos e2, if_neg (fun z => c.1 (decide_eq_true (e2.trans z.symm))), if_pos e2]
          · rw [if_neg e2, if_neg e2]
    refine mergeD_val k v ps _ (fun q hq => hp q (List.mem_cons_of_mem _ hq)) ?_
    rw [put]
    by_cases e : p.1 = k
    · rw [if_pos e, hp p (List.mem_cons_self ..) e]
      exact .inl rfl
    · rw [if_neg e]
      rcases h with h | h
      · exact .inl h
      · rcases List.mem_cons.mp h with z | z
        · rw [← z] at e
          exact absurd rfl e
        · exact .inr z
end
end Lx
namespace Lx
open PySem PySem.Spec PyProof.Rows L2 TL
open My (Asc)
section
variable {Z : Px} {j : Bool} {Γ : List Cell} {α β γ δ κ : Type} {K : PySem.W.Frag}
variable {S L S' : Type} {R : Rf γ} {Γn : S → List Cell} {Γl : L → List Cell}
/-! ### what a slot owns -/
/-- one object -/
def lab1 (p : Addr) : Lab := fun b => if b = p then some [] else none
theorem lab1_at (p : Addr) : lab1 p p ≠ none := by
  unfold lab1
  rw [if_pos rfl]
  exact fun z => nomatch z
theorem lab1_eq {p b : Addr} (h : lab1 p b ≠ none) : b = p := by
  by_cases z : b = p
  · exact z
  · exact absurd (if_neg z) h
theorem at_newO {φ : Fr} {σ : L2.St} {w : Wd} {H : Hp} {i : Nat} {p : Addr} {F : Ow α} {ob : HO} {a : α} (hA : At φ Γ σ w H) (hi : i < φ.n) (hp : H p = none) (pr : F.top w.I (upd H p ob) (lab1 p) (.ref p) a) : At φ (⟨.o F, i, a⟩ :: Γ) (σ.set i (some (.ref p))) ⟨w.I, fun b => if b = p then some i else w.own b, w.wl⟩ (upd H p ob) := by
  have ho : ∀ b, b ≠ p → (fun b => if b = p then some i else w.own b) b = w.own b := fun b z => if_neg z
  have hw : ∀ b, b ≠ p → w.wl b = w.wl b := fun _ _ => rfl
  refine ⟨gf_fresh hA.go hp _ ho hw (fun _ => (own_fresh hA hp).2), by rw [List.length_set]; exact hA.len, ?_⟩
  exact hold_tgt (cs := [⟨.o F, i, a⟩]) (is := [i]) (fun j hj => set_off (by simpa using hj)) rfl (holdC1 ⟨_, set_at (by rw [hA.len]; exact hi), lab1 p, fun b hb => by rw [lab1_eq hb]; exact ⟨if_pos rfl, nn upd_same⟩, pr⟩) (fun j c e => holds_fresh hp _ ho hw (hA.hold j c e))
/-- a step that changes what slot i owns, and wells -/
structure Gc (sl : Nat) (w : Wd) (H : Hp) (I' : Hp) (own' : Addr → Option Nat) (H' : Hp) : Prop where
  i : Same w.I I'
  sub : Same I' H'
  new : ∀ b, H b ≠ none → I' b = w.I b
  kept : ∀ b o, w.own b ≠ some sl → w.wl b = none → H b = some o → H' b = some o
  wells : ∀ b k ns, w.wl b = some k → H b = some (.lst (List.map V.int ns)) → ∃ ns' : List Int, H' b = some (.lst (ns'.map V.int)) ∧ ns'.length = ns.length
  dom : ∀ b, H b ≠ none → H' b ≠ none
  own : ∀ b, own' b = w.own b ∨ (own' b = some sl ∧ H b = none ∧ H' b ≠ none ∧ I' b = none)
theorem Gc.rf {i : Nat} {w : Wd} {H : Hp} (s : Same w.I H) : Gc i w H w.I w.own H := ⟨Same.refl _, s, fun _ _ => rfl, fun _ _ _ _ h => h, fun _ _ ns _ h => ⟨ns, h, rfl⟩, fun _ h => h, fun _ => .inl rfl⟩
theorem Gc.up {i : Nat} {w : Wd} {H : Hp} {L : Addr} (s : Same w.I H) (il : w.I L = none) (ol : w.own L = some i) (wl : w.wl L = none) (o : HO) : Gc i w H w.I w.own (upd H L o) := by
  refine ⟨Same.refl _, fun b u q => ?_, fun _ _ => rfl, fun b u n _ h => ?_, fun b k ns h1 h2 => ⟨ns, ?_, rfl⟩, fun b h => ?_, fun _ => .inl rfl⟩
  · rw [upd_ne (fun z => by rw [z, il] at q; cases q)]
    exact s _ _ q
  · rw [upd_ne (fun z => n (by rw [z]; exact ol))]
    exact h
  · rw [upd_ne (fun z => by rw [z, wl] at h1; cases h1)]
    exact h2
  · by_cases z : b = L
    · rw [z]
      exact nn upd_same
    · rw [upd_ne z]
      exact h
theorem Gf.gc {w0 w : Wd} {H0 H I' H' : Hp} {own' : Addr → Option Nat} {i : Nat} (a : Gf w0 H0 w H) (g : Gc i w H I' own' H') : Gf w0 H0 ⟨I', own', w.wl⟩ H' := by
  have off : ∀ b, H0 b ≠ none → w.own b ≠ some i := fun b h z => by
    rw [a.onew b h] at z
    cases z
  refine ⟨a.i.trans g.i, fun b h => (g.new b (a.dom b h)).trans (a.inew b h), fun b h => ?_, a.wnew, fun b o h1 h2 => g.kept b o (off b (nn h2)) ((a.wnew b (nn h2)).trans h1) (a.keep b o h1 h2), g.sub, fun b j q => ?_, fun b j q => ⟨(g.new b (a.apw b j q).2).trans (a.apw b j q).1, g.dom b (a.apw b j q).2⟩, fun b j ns h1 h2 => ?_, fun b h => g.dom b (a.dom b h)⟩
  · rcases g.own b with e | ⟨_, e, _⟩
    · exact e.trans (a.onew b h)
    · exact absurd e (a.dom b h)
  · have q' : own' b = some j := q
    rcases g.own b with e | ⟨e, e1, e2, e3⟩
    · rw [e] at q'
      obtain ⟨q1, q2, q3⟩ := a.apo b j q'
      exact ⟨(g.new b q2).trans q1, g.dom b q2, q3⟩
    · refine ⟨e3, e2, ?_⟩
      cases z : w.wl b with
      | none => rfl
      | some k => exact absurd e1 (a.apw b k z).2
  · obtain ⟨n1, e1, l1⟩ := a.wells b j ns h1 h2
    obtain ⟨n2, e2, l2⟩ := g.wells b j n1 ((a.wnew b (nn h2)).trans h1) e1
    exact ⟨n2, e2, l2.trans l1⟩
theorem holds_gc {w0 w : Wd} {H0 H I' H' : Hp} {own' : Addr → Option Nat} {i : Nat} {σ : L2.St} (a : Gf w0 H0 w H) (g : Gc i w H I' own' H') {c : Cell} (ni : c.i ≠ i) (h : c.holds σ w H) : c.holds σ ⟨I', own', w.wl⟩ H' := by
  have ow : ∀ {b : Addr} {j : Nat}, w.own b = some j → own' b = some j := fun {b j} e => by
    rcases g.own b with z | ⟨_, z, _⟩
    · exact z.trans e
    · exact absurd z (a.apo b j e).2.1
  have off : ∀ {b : Addr}, w.own b = some c.i → w.own b ≠ some i := fun {b} e z => ni (Option.some.inj (e.symm.trans z))
  obtain ⟨K, k, x⟩ := c
  cases K with
  | p R =>
    obtain ⟨v, e, r⟩ := h
    exact ⟨v, e, R.mn g.i r⟩
  | l R =>
    obtain ⟨v, e, L, vs, e1, e2, e3, e4, e5⟩ := h
    exact ⟨v, e, L, vs, e1, ow e2, g.kept _ _ (off e2) (a.apo L k e2).2.2 e3, e4, prd_mono R g.i e5⟩
  | o F =>
    obtain ⟨v, e, l, e1, e2⟩ := h
    exact ⟨v, e, l, fun b hb => ⟨ow (e1 b hb).1, g.dom b (e1 b hb).2⟩, F.mono g.i (fun b hb => by
      obtain ⟨o, q⟩ := sm (e1 b hb).2
      rw [q]
      exact g.kept b o (off (e1 b hb).1) (a.apo b k (e1 b hb).1).2.2 q) e2⟩
  | w n =>
    obtain ⟨v, e, W, ns, e1, e2, e3, e4⟩ := h
    obtain ⟨ns', f1, f2⟩ := g.wells W k ns e2 e3
    exact ⟨v, e, W, ns', e1, e2, f1, f2.trans e4⟩
  | x => exact h
/-- what slot i owns changes -/
theorem at_ch {φ : Fr} {σ : L2.St} {w : Wd} {H : Hp} {i : Nat} {c : Cell} {I' H' : Hp} {own' : Addr → Option Nat} (a : At φ Γ σ w H) (g : Gc i w H I' own' H') (ci : c.i = i) (hc : c.holds σ ⟨I', own', w.wl⟩ H') : At φ (c :: Γ) σ ⟨I', own', w.wl⟩ H' :=
  ⟨Gf.gc a.go g, a.len, fun k d q => by
    have q' : (match Nat.beq c.i k with | true => some c | false => look Γ k) = some d := q
    cases z : Nat.beq c.i k with
    | true =>
      rw [z] at q'
      cases q'
      exact hc
    | false =>
      rw [z] at q'
      have nz : c.i ≠ k := Nat.ne_of_beq_eq_false z
      exact holds_gc a.go g (fun e => nz (by rw [ci, ← e]; exact look_i q')) (a.hold k d q')⟩
/-- one object of slot i's tree changes -/
theorem at_chO {φ : Fr} {σ : L2.St} {w : Wd} {H : Hp} {i : Nat} {F : Ow α} {Lx : Addr} {ob : HO} {a' : α} {v : V} {l : Lab} (a : At φ Γ σ w H) (e : σ[i]? = some (some v)) (hl : ∀ b, l b ≠ none → w.own b = some i ∧ H b ≠ none) (e1 : l Lx ≠ none) (pr : F.top w.I (upd H Lx ob) l v a') : At φ (⟨.o F, i, a'⟩ :: Γ) σ w (upd H Lx ob) := by
  have o1 := (hl Lx e1).1
  have g := Gc.up (i := i) (H := H) a.go.sub (a.go.apo Lx i o1).1 o1 (a.go.apo Lx i o1).2.2 ob
  exact at_ch (c := ⟨.o F, i, a'⟩) a g rfl ⟨v, e, l, fun b hb => ⟨(hl b hb).1, g.dom b (hl b hb).2⟩, pr⟩
theorem at_same {φ : Fr} {σ : L2.St} {w : Wd} {H : Hp} {i : Nat} {c : Cell} (a : At φ Γ σ w H) (hl : look Γ i = some c) : At φ (c :: Γ) σ w H := ⟨a.go, a.len, fun k d q => by
  have q' : (match Nat.beq c.i k with | true => some c | false => look Γ k) = some d := q
  cases z : Nat.beq c.i k with
  | true =>
    rw [z] at q'
    cases q'
    exact a.hold i c hl
  | false =>
    rw [z] at q'
    exact a.hold k d q'⟩
/-- what slot i owns is left as it is from here on -/
theorem at_frzO {φ : Fr} {σ : L2.St} {w : Wd} {H : Hp} {i : Nat} {F : Ow α} {R : Rp α} {a : α} (hR : ∀ (I I' H : Hp) (l : Lab) v, F.top I H l v a → Same I I' → (∀ b o, l b ≠ none → H b = some o → I' b = some o) → R.rep I' v a) (hA : At φ Γ σ w H) (hl : look Γ i = some ⟨.o F, i, a⟩) : ∃ w', At φ (⟨.p R, i, a⟩ :: Γ) σ w' H ∧ Same w.I w'.I := by
  obtain ⟨v, e, l, f1, f2⟩ := hA.hold i _ hl
  have f1 : ∀ b, l b ≠ none → w.own b = some i ∧ H b ≠ none := f1
  have f2 : F.top w.I H l v a := f2
  have old : ∀ {b : Addr}, φ.H0 b ≠ none → l b = none := fun {b} h => by
    cases z : l b with
    | none => rfl
    | some q =>
      have := (f1 b (by rw [z]; exact fun y => nomatch y)).1
      rw [hA.go.onew b h] at this
      cases this
  let I' : Hp := fun b => if l b = none then w.I b else H b
  have iy : ∀ {b}, l b = none → I' b = w.I b := fun h => if_pos h
  have iz : ∀ {b}, l b ≠ none → I' b = H b := fun h => if_neg h
  have s1 : Same w.I I' := fun b o q => by
    by_cases z : l b = none
    · rw [iy z]
      exact q
    · have := (hA.go.apo b i (f1 b z).1).1
      rw [this] at q
      cases q
  let ow : Addr → Option Nat := fun b => if l b = none then w.own b else none
  have oy : ∀ {b}, l b = none → ow b = w.own b := fun h => if_pos h
  have oz : ∀ {b j}, ow b = some j → l b = none ∧ w.own b = some j := fun {b j} h => by
    by_cases z : l b = none
    · exact ⟨z, (oy z).symm.trans h⟩
    · rw [show ow b = none from if_neg z] at h
      cases h
  refine ⟨⟨I', ow, w.wl⟩, ⟨⟨hA.go.i.trans s1, fun b hb => (iy (old hb)).trans (hA.go.inew b hb), fun b hb => (oy (old hb)).trans (hA.go.onew b hb), hA.go.wnew, hA.go.keep, fun b o q => ?_, fun b j q => ?_, fun b j q => ?_, hA.go.wells, hA.go.dom⟩, hA.len, fun k c q => ?_⟩, s1⟩
  · by_cases z : l b = none
    · exact hA.go.sub _ _ ((iy z).symm.trans q)
    · exact (iz z).symm.trans q
  · obtain ⟨z, q2⟩ := oz q
    exact ⟨(iy z).trans (hA.go.apo b j q2).1, (hA.go.apo b j q2).2⟩
  · have z : l b = none := by
      cases z : l b with
      | none => rfl
      | some y =>
        have y1 := (f1 b (by rw [z]; exact fun y => nomatch y)).1
        have q' : w.wl b = some j := q
        rw [(hA.go.apo b i y1).2.2] at q'
        cases q'
    exact ⟨(iy z).trans (hA.go.apw b j q).1, (hA.go.apw b j q).2⟩
  · have q' : (match Nat.beq i k with | true => some (⟨.p R, i, a⟩ : Cell) | false => look Γ k) = some c := q
    cases z : Nat.beq i k with
    | true =>
      rw [z] at q'
      cases q'
      exact ⟨_, e, hR _ _ H l v f2 s1 (fun b o hb q => (iz hb).trans q)⟩
    | false =>
      rw [z] at q'
      have nz : i ≠ k := Nat.ne_of_beq_eq_false z
      have hi := look_i q'
      have hc := hA.hold k c q'
      have lo : ∀ {b : Addr}, w.own b = some k → l b = none := fun {b} h => by
        cases y : l b with
        | none => rfl
        | some _ => exact absurd (Option.some.inj ((f1 b (by rw [y]; exact fun y => nomatch y)).1.symm.trans h)) nz
      obtain ⟨K, k2, x⟩ := c
      subst hi
      cases K with
      | p R =>
        obtain ⟨v, q, h⟩ := hc
        exact ⟨v, q, R.mn s1 h⟩
      | l R =>
        obtain ⟨v, q, L', vs', g1, g2, g3, g4, g5⟩ := hc
        exact ⟨v, q, L', vs', g1, (oy (lo g2)).trans g2, g3, g4, prd_mono R s1 g5⟩
      | o F =>
        obtain ⟨v, q, l', g1, g2⟩ := hc
        exact ⟨v, q, l', fun b hb => ⟨(oy (lo (g1 b hb).1)).trans (g1 b hb).1, (g1 b hb).2⟩, F.mono s1 (fun _ _ => rfl) g2⟩
      | w k => exact hc
      | x => exact hc
/-! ### dicts of a slot's own -/
def oK (kf : κ → Key) (B : Rp β) : Ow (List (κ × β)) := ⟨fun I H l v d => ∃ L kvs, v = .ref L ∧ l L ≠ none ∧ H L = some (.dK kvs) ∧ Paired (PKV kf B I) kvs d, fun s k ⟨L, kvs, e, n, h, p⟩ => ⟨L, kvs, e, n, by rw [k L n]; exact h, Paired.mono (fun _ _ h => ⟨h.1, B.mn s h.2⟩) p⟩⟩
/-- x = {} -/
theorem sb_newD {i : Nat} {u : TS} (kf : κ → Key) (B : Rp β) {m : M γ S L} (hi : i < Z.n) (hu : SB Z (⟨.o (oK kf B), i, []⟩ :: Γ) u R Γn Γl m) :
    SB Z Γ (tSeq (tAsg tDNewK (gName i)) u) R Γn Γl m := fun φ σ w H Dn rt nx bk ct X hn hA hm k1 k2 k3 k4 k5 =>
  fun p hp => hu φ (σ.set i (some (.ref p))) _ _ Dn rt nx bk ct X hn (at_newO hA (by rw [hn]; exact hi) hp ⟨p, [], rfl, lab1_at p, upd_same, .nil⟩) hm k1 k2 k3 k4 k5
/-- what setdefault makes of a dict -/
def sdD [DecidableEq κ] (d : List (κ × β)) (k : κ) (b : β) : List (κ × β) := match valD d k with
  | some _ => d
  | none => putD d k b
/-- x.setdefault(k, e), its answer dropped -/
theorem sb_setd [DecidableEq κ] {A : Rp κ} {B : Rp β} {kf : κ → Key} [kr : KeyR A kf] {i : Nat} {tk te : TE} {u : TS} {xs : List (κ × β)} {mk : D κ} {me : D β} {m : List (κ × β) → M γ S L} (hl : look Γ i = some ⟨.o (oK kf B), i, xs⟩) (hk : SE Z false Γ tk A mk) (he : SE Z false Γ te B me) (hu : ∀ d, SB Z (⟨.o (oK kf B), i, d⟩ :: Γ) u R Γn Γl (m d)) :
    SB Z Γ (tSeq (tDrop (tDSetd (tVar i) tk te)) u) R Γn Γl (fun rt nx bk ct X => mk (fun k => me (fun b => xs.length < sizeLine ∧ m (sdD xs k b) rt nx bk ct X) X) X) := fun φ σ w H Dn rt nx bk ct X hn hA hm k1 k2 k3 k4 k5 => by
  obtain ⟨v, e, l, hl0, Lx, kvs0, f1, f2, f4, f6⟩ := hA.hold i _ hl
  subst f1
  refine ⟨_, e, Lx, rfl, .inl ⟨kvs0, .inl f4⟩, hk φ σ w H _ _ X hn hA hm (fun k y I1 H1 pk s1 rk => he φ σ (w.to I1) H1 _ _ X hn (hA.step s1) pk (fun b z I2 H2 pb s2 rb => ?_) (xg s1 (kx hA.go k5))) (kx hA.go k5)⟩
  have hA2 := (hA.step s1).step s2
  obtain ⟨v', e', l', hl', L', kvs, g1, g2, g4, g6⟩ := hA2.hold i _ hl
  rw [e] at e'
  cases e'
  cases g1
  have si : Same w.I I2 := s1.i.trans s2.i
  refine ⟨kvs, kf k, g4, kr.is _ _ _ _ rk, by rw [Paired.length g6]; exact pb.1, fun x hx => ?_, fun hx => ?_⟩
  · rcases val_prd kr.inj k g6 with ⟨v, b', q1, q2, q3⟩ | ⟨q1, q2⟩
    · have hm2 : m (sdD xs k b) rt nx bk ct X := pb.2
      have es : sdD xs k b = xs := by
        unfold sdD
        rw [q2]
      rw [es] at hm2
      exact hu xs φ σ (w.to I2) _ Dn rt nx bk ct X hn (at_same hA2 hl) hm2 k1 (kk2 si k2) (kk2 si k3) (kk2 si k4) k5
    · rw [hx] at q1
      cases q1
  · rcases val_prd kr.inj k g6 with ⟨v, b', q1, q2, q3⟩ | ⟨q1, q2⟩
    · rw [hx] at q1
      cases q1
    · have hm2 : m (sdD xs k b) rt nx bk ct X := pb.2
      have es : sdD xs k b = putD xs k b := by
        unfold sdD
        rw [q2]
      rw [es] at hm2
      exact hu _ φ σ (w.to I2) _ Dn rt nx bk ct X hn (at_chO hA2 e hl' g2 ⟨Lx, _, rfl, g2, upd_same, put_prd kr.inj rb g6⟩) hm2 k1 (kk2 si k2) (kk2 si k3) (kk2 si k4) k5
/-- a dict of a slot's own is left as it is from here on -/
theorem sb_frzD (i : Nat) {t : TS} {kf : κ → Key} {B : Rp β} {xs : List (κ × β)} {m : M γ S L} (hl : look Γ i = some ⟨.o (oK kf B), i, xs⟩) (hu : SB Z (⟨.p (rK kf B), i, xs⟩ :: Γ) t R Γn Γl m) : SB Z Γ t R Γn Γl m := fun φ σ w H Dn rt nx bk ct X hn hA hm k1 k2 k3 k4 k5 => by
  obtain ⟨w', hA', s⟩ := at_frzO (F := oK kf B) (R := rK kf B) (fun I I' H l v ⟨L, kvs, e, n, h, p⟩ s k => ⟨L, kvs, e, k _ _ n h, Paired.mono (fun _ _ h => ⟨h.1, B.mn s h.2⟩) p⟩) hA hl
  exact hu φ σ w' H Dn rt nx bk ct X hn hA' hm k1 (kk2 s k2) (kk2 s k3) (kk2 s k4) k5
/-- d[k] -/
theorem se_dget [DecidableEq κ] {A : Rp κ} {B : Rp β} {kf : κ → Key} [kr : KeyR A kf] {td tk : TE} {md : D (List (κ × β))} {mk : D κ} (hd : SE Z true Γ td (rK kf B) md) (hk : SE Z true Γ tk A mk) : SE Z j Γ (tDGet td tk) B (D.bind md fun d => D.bind mk fun k => fun P _ => ∃ b, valD d k = some b ∧ P b) := fun φ σ w H Q P X hn hA hm kk x =>
  hd φ σ w H _ _ X hn hA hm (fun d v I1 H1 pd s1 rd => by
    obtain ⟨a, kvs, e1, e2, pr⟩ := rd
    refine hk φ σ (w.to I1) H1 _ _ X hn (hA.step s1) pd (fun k y I2 H2 pk s2 rk => ?_) (xg s1 x)
    have e3 := tp_sub (j := true) s2.sub _ _ (tp_go (w := w.to I1) (j := true) s2 _ _ e2)
    rw [kr.is _ _ _ _ rk]
    obtain ⟨b, eb, pb⟩ := pk
    have g := s1.trans s2
    rcases val_prd kr.inj k pr with ⟨u, b', q1, q2, q3⟩ | ⟨q1, q2⟩
    · rw [eb] at q2
      cases q2
      have := DGet.k e3 (k := kf k)
      rw [q1] at this
      exact ⟨a, u, e1, this, kk b u I2 H2 pb g (B.up (i_tp (w := w.to I2) j (hA.step g).go) (B.mn s2.i q3))⟩
    · rw [eb] at q2
      cases q2) x
/-- len(d) -/
theorem ro_lenD {kf : κ → Key} {B : Rp β} : ROA (fun xs H Q => ∃ a kvs, xs = [V.ref a] ∧ H a = some (.dK kvs) ∧ Q (.int kvs.length) H) (rsC (rK kf B) rs0) rI (fun b => D.pure (b.1.length : Int)) := fun J I H vs b Q P X sj s ⟨v, r, e, ⟨p, us, e1, e2, pr⟩, h2⟩ hk q => by
  cases (show r = [] from h2)
  subst e1
  exact ⟨p, us, e, s _ _ e2, by rw [Paired.length pr]; exact q _ _ I H hk (Gw.refl (sj.trans s)) rfl⟩
/-- sorted(d), keys that are numbers, fewer than 64 -/
def rSrtDI : List V → Hp → VK → Prop := fun xs H Q => ∃ (a : Addr) (kvs : List (Key × V)) (ks : List Int), xs = [.ref a] ∧ Rd H a (.dK kvs) ∧ kvs.map (·.1) = ks.map Sum.inl ∧ ks.length < 64 ∧ ∀ (ys : List Int) (p : Addr), ys.Perm ks → ys.Pairwise (· ≤ ·) → H p = none → Q (.ref p) (upd H p (.lst (ys.map V.int)))
theorem cr_srtDI {X : Cx} (hc : X.calm = true) : CallR X (.builtin "sorted") rSrtDI := call_sortedDI hc
theorem keys_prd {B : Rp β} {I : Hp} : ∀ {kvs : List (Key × V)} {d : List (Int × β)}, Paired (PKV Sum.inl B I) kvs d → kvs.map (·.1) = (d.map (·.1)).map Sum.inl
  | _, _, .nil => rfl
  | _, _, .cons h t => by
    rw [List.map_cons, List.map_cons, List.map_cons, keys_prd t, h.1]
theorem prd_int {I : Hp} : ∀ (ys : List Int), Paired (rI.rep I) (ys.map V.int) ys
  | [] => .nil
  | _ :: r => .cons rfl (prd_int r)
theorem rn_srtDI {B : Rp β} : ROAn rSrtDI (rsC (rK Sum.inl B) rs0) rI (fun b => fun P _ => b.1.length < 64 ∧ ∀ ys, ys.Perm (b.1.map (·.1)) → ys.Pairwise (· ≤ ·) → P ys) := fun J I H vs b Q P X sj s ⟨v, r, e, ⟨p, us, e1, e2, pr⟩, h2⟩ hk q => by
  cases (show r = [] from h2)
  subst e1
  refine ⟨p, us, b.1.map (·.1), e, .inl (s _ _ e2), keys_prd pr, by rw [List.length_map]; exact hk.1, fun ys n hp hs hn => q ys _ n (hk.2 ys hp hs) hn ?_ (prd_int ys)⟩
  have l := hp.length_eq
  rw [List.length_map] at l
  have : 64 ≤ sizeLine := by decide
  have := hk.1
  omega
theorem prd_rev {R : V → α → Prop} : ∀ {vs : List V} {xs : List α}, Paired R vs xs → Paired R vs.reverse xs.reverse
  | _, _, .nil => .nil
  | _, _, .cons h t => by
    rw [List.reverse_cons, List.reverse_cons]
    exact paired_app (prd_rev t) (.cons h .nil)
theorem revK {X : Cx} (K : PySem.W.Frag) {e : Expr} {te : TE} (h : X.K = K) (p : PE X e (tRevL X.K te)) : PE X e (tRevL K te) := h ▸ p
/-- xs[::-1] -/
theorem sn_rev {te : TE} {A : Rp α} {me : D (List α)} (he : SE Z true Γ te (rL A) me) : SN Z Γ (tRevL K te) A (D.bind me fun xs => D.pure xs.reverse) := fun φ σ w H Q P X hn hA hm kk x =>
  he φ σ w H _ _ X hn hA hm (fun ys v I1 H1 py s1 rd => by
    obtain ⟨a, vs, e1, e2, l, pr⟩ := rd
    refine ⟨a, vs, e1, SqL.of (tp_sub (j := true) s1.sub _ _ e2), fun p hp => ?_⟩
    exact kk ys.reverse vs.reverse p I1 _ py (s1.trans (go_loose (w := w.to I1) hp (Go.rf (w := w.to I1) s1.sub) (s1.sub.free hp) _)) (none_of s1 hp) (s1.sub.free hp) upd_same (by rw [List.length_reverse]; exact l) (prd_rev pr)) x
/-! ### len and sum of the script -/
theorem ro_lenScr {A : Rp α} : ROA (fun xs H Q => ∃ p ys, xs = [.ref p] ∧ (SqL K H p ys ∨ SqT K H p ys) ∧ Q (.int ys.length) H) (rsC (rScr K A) rs0) rI (fun b => D.pure (b.1.l.length : Int)) := fun J I H vs b Q P X sj s ⟨v, r, e, ⟨p, us, e1, e2, l, pr⟩, h2⟩ hk q => by
  cases (show r = [] from h2)
  subst e1
  exact ⟨p, us, e, .inl (s.seq e2), q _ _ I H hk (Gw.refl (sj.trans s)) (by rw [prd_len pr]; rfl)⟩
theorem ro_sumScr : ROA (rSum K) (rsC (rScr K rI) rs0) rI (fun b => D.pure b.1.l.sum) := fun J I H vs b Q P X sj s ⟨v, r, e, ⟨p, us, e1, e2, l, pr⟩, h2⟩ hk q => by
  cases (show r = [] from h2)
  subst e1
  exact ⟨p, b.1.l, e, by rw [← ints_of pr]; exact s.seq e2, q _ _ I H hk (Gw.refl (sj.trans s)) rfl⟩
/-! ### lists of a told length, taken apart by names -/
def rLr {β : Type} (S : Rps β) : Rp (Tu β) := ⟨fun J I v t => ∃ a vs, v = .ref a ∧ J a = some (.lst vs) ∧ S.rep I vs t.r, fun s t ⟨a, vs, e, h, k⟩ => ⟨a, vs, e, s _ _ h, S.mono t t k⟩⟩
theorem sg_lst {S : Rps β} {u : TGs} {is : List Nat} {cs : β → List Cell} {q : Nat} (h : SGs K u S is cs) (l : ∀ J I vs b, S.top J I vs b → vs.length = q) : SG K (gLst K q u) (rLr S) is (fun t => cs t.r) := ⟨fun t => h.1 t.r, fun x a σ w H m Q hl hi s r k => by
  obtain ⟨p, vs, e, q, r⟩ := r
  exact ⟨p, vs, e, SqL.of (s _ _ q), l _ _ _ _ r, h.2 vs a.r σ w H m Q hl hi s r k⟩⟩
/-- a row of things of one kind, as a list -/
class RowL (A : Rp α) (S : Rps β) where
  lst : β → List α
  back : ∀ {I : Hp} {vs : List V} {b : β}, Paired (A.rep I) vs (lst b) → S.rep I vs b
instance {A : Rp α} : RowL A rs0 := ⟨fun _ => [], fun {I vs b} h => by cases h; rfl⟩
instance {A : Rp α} {S : Rps β} [r : RowL A S] : RowL A (rsC A S) := ⟨fun b => b.1 :: r.lst b.2, fun {I vs b} h => by
  cases h with
  | cons h t => exact ⟨_, _, rfl, h, r.back t⟩⟩
theorem SE.row {t : TE} {A : Rp α} {S : Rps β} [r : RowL A S] {m : D (List α)} (h : SE Z j Γ t (rL A) m) : SE Z j Γ t (rLr S) (D.bind m fun xs => fun P _ => ∃ b : β, xs = r.lst b ∧ P ⟨b⟩) := SE.cast (fun J I v o P X q hp => by
  obtain ⟨b, rfl, pb⟩ := hp
  obtain ⟨a, vs, e, h, l, pr⟩ := q
  exact ⟨⟨b⟩, pb, a, vs, e, h, r.back pr⟩) h
theorem prd_rows {A : Rp α} {S : Rps β} [r : RowL A S] {I : Hp} : ∀ {vs : List V} (bs : List (Tu β)), Paired ((rL A).rep I) vs (bs.map fun b => r.lst b.r) → Paired ((rLr S).rep I) vs bs
  | _, [], h => by
    cases h
    exact .nil
  | _, b :: bs, h => by
    cases h with
    | cons h t =>
      obtain ⟨a, ws, e, h1, l, pr⟩ := h
      exact .cons ⟨a, ws, e, h1, r.back pr⟩ (prd_rows bs t)
theorem SE.rows {t : TE} {A : Rp α} {S : Rps β} [r : RowL A S] {m : D (List (List α))} (h : SE Z j Γ t (rL (rL A)) m) : SE Z j Γ t (rL (rLr S)) (D.bind m fun xss => fun P _ => ∃ bs : List (Tu β), xss = bs.map (fun b => r.lst b.r) ∧ P bs) := SE.cast (fun J I v o P X q hp => by
  obtain ⟨bs, rfl, pb⟩ := hp
  obtain ⟨a, vs, e, h, l, pr⟩ := q
  exact ⟨bs, pb, a, vs, e, h, by rw [List.length_map] at l; exact l, prd_rows bs pr⟩) h
/-! ### tuples of one kind, as tuples of any length -/
class RowT (A : Rp α) (S : Rps β) where
  lst : β → List α
  n : Nat
  len : ∀ b, (lst b).length = n
  on : ∀ {I : Hp} {vs : List V} {b : β}, S.rep I vs b → Paired (A.rep I) vs (lst b)
instance {A : Rp α} : RowT A rs0 := ⟨fun _ => [], 0, fun _ => rfl, fun {I vs b} h => by cases (show vs = [] from h); exact .nil⟩
instance {A : Rp α} {S : Rps β} [r : RowT A S] : RowT A (rsC A S) := ⟨fun b => b.1 :: r.lst b.2, r.n + 1, fun b => by rw [List.length_cons, r.len], fun {I vs b} ⟨v, q, e, h, k⟩ => by
  subst e
  exact .cons h (r.on k)⟩
theorem co_tuT {A : Rp α} {S : Rps β} [r : RowT A S] (l : r.n ≤ sizeLine := by decide) : ∀ (J I : Hp) v (a : Tu β), (rTu K S).top J I v a → (rT K A).top J I v ⟨r.lst a.r⟩ := fun J I v a ⟨p, vs, e, q, k⟩ => ⟨p, vs, e, q, by rw [show (r.lst a.r).length = r.n from r.len a.r]; exact l, r.on k⟩
/-- script[k] -/
theorem ro_ixScr {A : Rp α} : RO2 (rIxL K) (rScr K A) rI A (fun xs i => atD xs.l i) := fun J I H v u a b Q P X sj s ha hb hk q => by
  obtain ⟨p, vs, rfl, e, l, pr⟩ := ha
  obtain ⟨c, ec, pc⟩ := hk
  obtain ⟨x, ex, rx⟩ := atI_of pr ec
  exact ⟨p, vs, b, x, rfl, hb, s.seq e, ex, q _ _ I H pc (Gw.refl (sj.trans s)) rx⟩
/-- zip of two tuples -/
theorem si_zipT (hK : Z.K = K) {ta : TA} {A : Rp α} {B : Rp β} {m : D (Tv α × Tv β × Unit)} (h : SA Z j Γ ta (rsC (rT K A) (rsC (rT K B) rs0)) m) : SI Z j Γ (RZ.iZipA Z.K ta) (rTu K (rsC A (rsC B rs0))) (D.bind m fun b => D.pure ((b.1.l.zip b.2.1.l).map fun p => Tu.mk (p.1, p.2, ()))) := fun φ σ w H Rr P X hn hA hm k x =>
  h φ σ w H _ _ X hn hA hm (fun b vs I' H' pa s ⟨v, r, e, ⟨p, us, e1, e2, l, pr⟩, v2, r2, f, ⟨p2, us2, f1, f2, l2, pr2⟩, h2⟩ => by
    subst hK
    cases (show r2 = [] from h2)
    subst e1 f1 f
    have ln : ((b.1.l.zip b.2.1.l).map fun p : α × β => Tu.mk (p.1, p.2, ())).length = min b.1.l.length b.2.1.l.length := by rw [List.length_map, List.length_zip]
    have lu := prd_len pr
    have lu2 := prd_len pr2
    refine ⟨p, p2, us, us2, e, .inr ⟨Same.seqT (tp_sub s.sub) e2, Same.seqT (tp_sub s.sub) f2, k _ _ I' H' pa s (by rw [ln]; omega) ⟨fun H1 s1 => ⟨us, us2, Same.seqT s1 e2, Same.seqT s1 f2, by rw [ln]; omega⟩, fun i H1 hi s1 => ?_, fun i I H1 y H2 hi s1 s0 s2 ⟨T, z, z2, ez, hT, eH, hy, hy2⟩ => ?_⟩⟩⟩
    · rw [ln] at hi
      obtain ⟨v, c, q1, _, _⟩ := prd_get (i := i) pr (by omega)
      obtain ⟨v2, c2, g1, _, _⟩ := prd_get (i := i) pr2 (by omega)
      exact ⟨us, us2, v, v2, Same.seqT s1 e2, Same.seqT s1 f2, q1, g1⟩
    · rw [ln] at hi
      obtain ⟨v, c, q1, q2, q3⟩ := prd_get (i := i) pr (by omega)
      obtain ⟨v2, c2, g1, g2, g3⟩ := prd_get (i := i) pr2 (by omega)
      have t1 := hy us (Same.seqT s1 e2)
      rw [q1] at t1
      cases t1
      have t2 := hy2 us2 (Same.seqT s1 f2)
      rw [g1] at t2
      cases t2
      have g := Gw.new1 s2 hT (.tup [z, z2])
      refine ⟨Tu.mk (c, c2, ()), _, ?_, by rw [eH]; exact g, ?_⟩
      · rw [List.getElem?_map, List.getElem?_zip_eq_some (z := (c, c2)).mpr ⟨q2, g2⟩]
        rfl
      · subst ez
        exact ⟨T, _, rfl, SqT.of upd_same, z, [z2], rfl, A.mn (s0.trans g.i) q3, z2, [], rfl, B.mn (s0.trans g.i) g3, rfl⟩) x
/-! ### a piece of a tuple -/
theorem slAK {X : Cx} (K : PySem.W.Frag) (h : X.K = K) : SlR X (rSlA K) := h ▸ sl_tupA
def ROSi (r : V → Option Int → Option Int → Hp → VK → Prop) (A : Rp α) (C : Rp γ) (k : α → Option Int → Option Int → D γ) : Prop := ∀ (I H : Hp) (v : V) (a : α) (lo hi : Option Int) (Q : VK) (P : γ → Prop) (X : Ex → Prop), Same I H → A.rep I v a → k a lo hi P X →
  (∀ c x I' H', P c → Gw I H I' H' → C.rep I' x c → Q x H') → r v lo hi H Q
theorem se_sli {r : V → Option Int → Option Int → Hp → VK → Prop} {A : Rp α} {C : Rp γ} {k : α → Option Int → Option Int → D γ} {te : TE} {tl th : TO} {ma : D α} {ml mh : D (Option Int)} (ro : ROSi r A C k) (ha : SE Z false Γ te A ma) (hl : SP Z Γ tl ml) (hh : SP Z Γ th mh) : SE Z j Γ (L2.tSl r te tl th) C (D.bind ma fun a => D.bind ml fun lo => D.bind mh fun hi => k a lo hi) := fun φ σ w H Q P X hn hA hm kk x =>
  ha φ σ w H _ _ X hn hA hm (fun a v I1 H1 pa s1 ra => hl φ σ (w.to I1) H1 _ _ X hn (hA.step s1) pa (fun lo I2 H2 pb s2 => hh φ σ (w.to I2) H2 _ _ X hn (hA.step (s1.trans s2)) pb (fun hi I3 H3 pc s3 => by
    have g := (s1.trans s2).trans s3
    exact ro I3 H3 v a lo hi Q P X s3.sub (A.mn (s2.trans s3).i ra) pc fun c y I' H' pc g' rc =>
      kk c y I' H' pc (g.trans (.of_gw g')) (C.up (i_tp (w := w.to I') j (hA.step (g.trans (.of_gw g'))).go) rc)) (xg (s1.trans s2) x)) (xg s1 x)) x
theorem ro_slT {A : Rp α} : ROSi (rSlA K) (rT K A) (rT K A) (fun xs lo hi => D.pure ⟨cutL xs.l lo hi⟩) := fun I H v a lo hi Q P X s ⟨p, vs, e, h, l, pr⟩ hk q => ⟨p, vs, e, Same.seqT s h, fun c => by
  have lu := prd_len pr
  have ec : cutL a.l lo hi = a.l := by
    unfold cutL
    rw [← lu, c.1, c.2, List.drop_zero, Nat.sub_zero, lu, List.take_length]
  refine q _ _ I H hk (Gw.refl s) ⟨p, vs, rfl, h, ?_, ?_⟩
  · show (cutL a.l lo hi).length ≤ sizeLine
    rw [ec]
    exact l
  · show Paired (A.rep I) vs (cutL a.l lo hi)
    rw [ec]
    exact pr, fun c n hn => by
  have g := Gw.new1 s hn (.tup (cutV vs lo hi))
  exact q _ _ _ _ hk g ⟨n, _, rfl, SqT.of upd_same, Nat.le_trans (cutL_len _ _ _) l, prd_mono A g.i (cut_prd pr lo hi)⟩⟩
end
end Lx
namespace L2
open PySem PySem.Spec PyProof.Rows
/-- str(e) of an instance whose class has a __str__ of its own -/
def tStrO (C : Addr) (sp : Sp) (E : XK) (te : TE) : TE := fun σ H Q => te σ H fun x H1 => ∃ a dx fs, x = .ref a ∧ H1 a = some (.ins C dx fs) ∧ sp [x] H1 (fun v H2 => (∃ z, v = .str z) ∧ Q v H2) E
theorem pe_strO {X : Cx} {CX : CXT} {k : Nat} {f C : Addr} {fd : FuncData} {ps : List Str} {sp : Sp} {E : XK} {x : Str} {p pos : Pos} {e : Expr} {te : TE} (he : PE X e te)
    (hs : PySem.W.findIn X.K (.ref C) "__str__" = some (some (.ref f))) (hf : PySem.W.isFn X.K (.ref f) = true) (F : FnOk X.prog X.w X.K X.mg X.base CX k f fd ps sp) (hr : Room (k + 2) X.A) (hb : Binds X.K fd ps []) (hx : Passes CX X E)
    (hg : Gl X x) (hm : X.mg x = none) (hv : bootBuiltins x = some (.type "str")) (hn : x ≠ "__name__" := by decide) (hdb : (x == ("__debug__" : Str)) = false := by decide)
    (hst : starEach [e] X.env = (false, eval e X.env) :: starEach [] X.env := by rfl) (hpl : (backTo pos (starEach [] X.env)).any (·.1) = false := by rfl) : PE X (.Call (.Name x p) [e] [] pos) (tStrO C sp E te) := by
  refine ⟨fun pins s σ H Q I h => ?_⟩
  refine wpAny_Call_Name_kw (ld_blt I hg hm hv ?_ hn hdb)
  have PAe := pa_cons he (pa_nil (X := X)) hst
  refine PyProof.Rows.callWith_type1 (thn (PAe.run pos pins s σ H (fun us H1 => ∃ y, us = [y] ∧ ∃ a dx fs, y = .ref a ∧ H1 a = some (.ins C dx fs) ∧ sp [y] H1 (fun v H2 => (∃ z, v = .str z) ∧ Q v H2) E) I (by
    have e0 : (fun (x : V) (H1 : Hp) => ∃ a dx fs, x = V.ref a ∧ H1 a = some (.ins C dx fs) ∧ sp [x] H1 (fun v H2 => (∃ z, v = .str z) ∧ Q v H2) E) = (fun y H1 => tNil σ H1 fun ys H2 => ∃ y', y :: ys = [y'] ∧ ∃ a dx fs, y' = .ref a ∧ H2 a = some (.ins C dx fs) ∧ sp [y'] H2 (fun v H2 => (∃ z, v = .str z) ∧ Q v H2) E) := by
      funext y H1
      apply propext
      constructor
      · intro h
        exact ⟨y, rfl, h⟩
      · rintro ⟨y', e1, h⟩
        cases e1
        exact h
    show te σ H _
    rw [← e0]
    exact h)) fun us s1 ⟨vs, H1, I1, r1, y, e1, a, dx, fs, e2, e3, q⟩ => ?_) hst hpl
  subst e1
  subst e2
  cases r1 with
  | cons ra rn =>
    cases rn
    obtain rfl := ra
    obtain ⟨mA, O, r, _, _, _⟩ := ins_get I1.hok e3
    obtain ⟨od, J, hl⟩ := O.look
    have hr1 : Room k X.A.in1.in1 := (Room.in1 (Room.in1 hr))
    refine PySem.W.kso_call (A := X.A) (by have := hr.un; show X.A.units + 1 + 1 < cLine; omega) I1.kIn J hs hf ?_
    refine wpAny_call (codeAny_mono (F.run X.A.in1.in1 X.stack s1 H1 ⟨[.ref a], []⟩ ([Value.ref a] ++ []) ([V.ref a] ++ []) _ E hr1 (I1.env0.in1.in1) (hb s1 [.ref a] I1.kIn (by
      have := F.len _ _ _ _ q
      exact this)) (show Vals ([V.ref a] ++ []) ([Value.ref a] ++ []) from .cons (show RelV (.ref a) (.ref a) from rfl) .nil) q) fun r s' hq => ?_)
    cases r with
    | error e => exact hx pins σ H1 s1 e s' I1 hq
    | ok fl =>
      cases fl with
      | ret u =>
        obtain ⟨v, H', I3, rv, ⟨z, ev⟩, q3⟩ := I1.after hq
        subst ev
        obtain ⟨tk, rfl⟩ := rv
        exact ⟨V.str z, H', I3, ⟨tk, rfl⟩, q3⟩
      | next => exact False.elim hq
      | brk => exact False.elim hq
      | cont => exact False.elim hq
end L2
namespace Lx
open PySem PySem.Spec PyProof.Rows L2 TL
section
variable {Z : Px} {j : Bool} {Γ : List Cell} {α β γ δ κ : Type} {K : PySem.W.Frag}
variable {S L S' : Type} {R : Rf γ} {Γn : S → List Cell} {Γl : L → List Cell}
/-! ### objects: their fields by name, in the order in which they were stored -/
structure Rfs (β : Type) where
  top : Hp → List (Str × V) → β → Prop
  mono : ∀ {I I' : Hp} {fs : List (Str × V)} {b : β}, Same I I' → top I fs b → top I' fs b
def rf0 : Rfs Unit := ⟨fun _ fs _ => fs = [], fun _ h => h⟩
def rfN (F : Rfs β) (f : Str) (A : Rp α) : Rfs (β × α) := ⟨fun I fs b => ∃ us v, fs = us ++ [(f, v)] ∧ F.top I us b.1 ∧ A.rep I v b.2, fun s ⟨us, v, e, h, k⟩ => ⟨us, v, e, F.mono s h, A.mn s k⟩⟩
/-- no field of this name -/
def Nin (F : Rfs β) (f : Str) : Prop := ∀ I fs b, F.top I fs b → fs.lookup f = none
theorem nin0 {f : Str} : Nin rf0 f := fun I fs b h => by
  cases (show fs = [] from h)
  rfl
theorem lookup_app (f : Str) : ∀ (us ws : List (Str × V)), (us ++ ws).lookup f = match us.lookup f with | some v => some v | none => ws.lookup f
  | [], ws => rfl
  | (g, x) :: r, ws => by
    rw [List.cons_append, List.lookup_cons, List.lookup_cons]
    cases h : f == g with
    | true => rfl
    | false => exact lookup_app f r ws
theorem ninN {F : Rfs β} {f n : Str} {A : Rp α} (h : Nin F f) (ne : (f == n) = false := by decide +kernel) : Nin (rfN F n A) f := fun I fs b ⟨us, v, e, h1, _⟩ => by
  subst e
  rw [lookup_app, h I us b.1 h1]
  show List.lookup f [(n, v)] = none
  rw [List.lookup_cons, ne]
  rfl
/-- how many fields -/
def Few (F : Rfs β) (n : Nat) : Prop := ∀ I fs b, F.top I fs b → fs.length = n
theorem fewF0 : Few rf0 0 := fun I fs b h => by
  cases (show fs = [] from h)
  rfl
theorem fewFN {F : Rfs β} {f : Str} {A : Rp α} {n : Nat} (h : Few F n) : Few (rfN F f A) (n + 1) := fun I fs b ⟨us, v, e, h1, _⟩ => by
  subst e
  rw [List.length_append, h I us b.1 h1]
  rfl
/-- a field -/
def FldAt (F : Rfs β) (f : Str) (B : Rp γ) (g : β → γ) : Prop := ∀ I fs b, F.top I fs b → ∃ v, fs.lookup f = some v ∧ B.rep I v (g b)
theorem fat_last {F : Rfs β} {f : Str} {A : Rp α} (h : Nin F f) : FldAt (rfN F f A) f A (·.2) := fun I fs b ⟨us, v, e, h1, h2⟩ => by
  subst e
  refine ⟨v, ?_, h2⟩
  rw [lookup_app, h I us b.1 h1]
  show List.lookup f [(f, v)] = some v
  rw [List.lookup_cons, beq_self_eq_true]
theorem fat_init {F : Rfs β} {f n : Str} {A : Rp α} {B : Rp γ} {g : β → γ} (h : FldAt F f B g) : FldAt (rfN F n A) f B (fun b => g b.1) := fun I fs b ⟨us, v, e, h1, h2⟩ => by
  subst e
  obtain ⟨u, e1, e2⟩ := h I us b.1 h1
  refine ⟨u, ?_, e2⟩
  rw [lookup_app, e1]
/-- an object that does not change, of a class at C -/
def rCl (C : Addr) (F : Rfs β) (to : α → β) : Rp α := ⟨fun J I v a => ∃ p dx fs, v = .ref p ∧ J p = some (.ins C dx fs) ∧ F.top I fs (to a), fun s t ⟨p, dx, fs, e, h, k⟩ => ⟨p, dx, fs, e, s _ _ h, F.mono t k⟩⟩
theorem fldCl {C : Addr} {F : Rfs β} {to : α → β} {f : Str} {B : Rp γ} {g : β → γ} (cl : Cls K C) (na : NoAttr K C f) (h : FldAt F f B g) : FldR K (rCl C F to) f B (fun a => g (to a)) := fun J I H v a _ s ⟨p, dx, fs, e, h1, h2⟩ => by
  obtain ⟨u, e1, e2⟩ := h I fs _ h2
  exact ⟨p, C, dx, fs, u, e, s _ _ h1, cl, na, e1, e2⟩
/-- what a method is called on -/
def Ndo (A : Rp α) (C : Addr) (m : Str) : Prop := ∀ J I v a, A.top J I v a → ∃ p dx fs, v = .ref p ∧ J p = some (.ins C dx fs) ∧ fs.lookup m = none
theorem ndoCl {C : Addr} {F : Rfs β} {to : α → β} {m : Str} (h : Nin F m) : Ndo (rCl C F to) C m := fun J I v a ⟨p, dx, fs, e, h1, h2⟩ => ⟨p, dx, fs, e, h1, h I fs _ h2⟩
theorem se_methF {E : XK} {C : Addr} {m : Str} {A : Rp α} {B : Rps β} {R : Rp γ} {k : α × β → D γ} {ta : TE} {t : TA} {ma : D α} {mb : D β} (nd : Ndo A C m) (ha : SE Z false Γ ta A ma) (hb : SA Z false Γ t B mb) :
    SE Z j Γ (tMeth C m (spF0 (rsC A B) R k) [] E ta t) R (D.bind ma fun a => D.bind mb fun b => D.nox (k (a, b))) := fun φ σ w H Q P X hn hA hm kk x =>
  ha φ σ w H _ _ X hn hA hm (fun a v I1 H1 pa s1 ra => by
    obtain ⟨p, dx, fs, e1, e2, e3⟩ := nd _ _ _ _ (show A.top I1 I1 v a from ra)
    refine ⟨p, dx, fs, e1, s1.sub _ _ e2, e3, hb φ σ (w.to I1) H1 _ _ X hn (hA.step s1) pa (fun b us I2 H2 pb s2 rb => ?_) (xg s1 x)⟩
    rw [List.append_nil]
    have g := s1.trans s2
    exact ⟨I2, (a, b), P, s2.sub, ⟨v, us, rfl, A.mn s2.i ra, rb⟩, pb, fun c v I' H' pc g' rc => kk c v I' H' pc (g.trans (.of_gw g')) (R.up (i_tp (w := w.to I') j (hA.step (g.trans (.of_gw g'))).go) rc)⟩) x
theorem se_methFX {C : Addr} {m : Str} {A : Rp α} {B : Rps β} {R : Rp γ} {k : α × β → D γ} {ta : TE} {t : TA} {ma : D α} {mb : D β} {Ef : XK} (hE : Z.E = fun _ => Ef := by rfl) (nd : Ndo A C m) (ha : SE Z false Γ ta A ma) (hb : SA Z false Γ t B mb) :
    SE Z j Γ (tMeth C m (spF Z.K Z.mg (rsC A B) R k) [] Ef ta t) R (D.bind ma fun a => D.bind mb fun b => k (a, b)) := fun φ σ w H Q P X hn hA hm kk x =>
  ha φ σ w H _ _ X hn hA hm (fun a v I1 H1 pa s1 ra => by
    obtain ⟨p, dx, fs, e1, e2, e3⟩ := nd _ _ _ _ (show A.top I1 I1 v a from ra)
    refine ⟨p, dx, fs, e1, s1.sub _ _ e2, e3, hb φ σ (w.to I1) H1 _ _ X hn (hA.step s1) pa (fun b us I2 H2 pb s2 rb => ?_) (xg s1 x)⟩
    rw [List.append_nil]
    have g := s1.trans s2
    refine ⟨I2, (a, b), P, X, s2.sub, ⟨v, us, rfl, A.mn s2.i ra, rb⟩, pb, fun c v I' H' pc g' rc => kk c v I' H' pc (g.trans (.of_gw g')) (R.up (i_tp (w := w.to I') j (hA.step (g.trans (.of_gw g'))).go) rc), fun e c d I' H' xe g' r => ?_⟩
    have := x e c d I' H' xe (g.trans (.of_gw g')) r
    rw [hE] at this
    exact this) x
/-- str(e) -/
theorem se_strO {E : XK} {C : Addr} {A : Rp α} {k : α × Unit → D Str} {ta : TE} {ma : D α} (nd : ∀ J I v a, A.top J I v a → ∃ p dx fs, v = .ref p ∧ J p = some (.ins C dx fs)) (ha : SE Z false Γ ta A ma) :
    SE Z j Γ (tStrO C (spF0 (rsC A rs0) rS k) E ta) rS (D.bind ma fun a => D.nox (k (a, ()))) := fun φ σ w H Q P X hn hA hm kk x =>
  ha φ σ w H _ _ X hn hA hm (fun a v I1 H1 pa s1 ra => by
    obtain ⟨p, dx, fs, e1, e2⟩ := nd _ _ _ _ (show A.top I1 I1 v a from ra)
    refine ⟨p, dx, fs, e1, s1.sub _ _ e2, ?_⟩
    exact ⟨I1, (a, ()), P, s1.sub, ⟨v, [], rfl, ra, rfl⟩, pa, fun c v I' H' pc g' rc => ⟨⟨c, rc.1⟩, kk c v I' H' pc (s1.trans (.of_gw g')) (rS.up (i_tp (w := w.to I') j (hA.step (s1.trans (.of_gw g'))).go) rc)⟩⟩) x
/-! ### an object in the making -/
def oF (p dx C : Addr) (F : Rfs β) : Ow β := ⟨fun I H l v b => v = .ref p ∧ l p ≠ none ∧ ∃ fs, H p = some (.ins C dx fs) ∧ F.top I fs b, fun s k ⟨e, n, fs, h, t⟩ => ⟨e, n, fs, by rw [k p n]; exact h, F.mono s t⟩⟩
theorem putF_new {f : Str} {v : V} : ∀ {fs : List (Str × V)}, fs.lookup f = none → putF f v fs = fs ++ [(f, v)]
  | [], _ => rfl
  | (g, x) :: r, h => by
    rw [List.lookup_cons] at h
    cases e : f == g with
    | true =>
      rw [e] at h
      cases h
    | false =>
      rw [e] at h
      have ne : ¬ g = f := fun z => by
        rw [z, beq_self_eq_true] at e
        cases e
      show (if g = f then (g, v) :: r else (g, x) :: putF f v r) = _
      rw [if_neg ne, putF_new h]
      rfl
/-- self.f = e, a field that is new -/
theorem sb_fldN {i n : Nat} {p dx C : Addr} {f : Str} {F : Rfs β} {b : β} {A : Rp α} {te : TE} {u : TS} {me : D α} {m : α → M γ S L} (hl : look Γ i = some ⟨.o (oF p dx C F), i, b⟩) (cl : Cls Z.K C) (na : NoAttr Z.K C f) (nn : Nin F f) (few : Few F n) (hn : n < 1000) (he : SE Z false Γ te A me)
    (hu : ∀ a, SB Z (⟨.o (oF p dx C (rfN F f A)), i, (b, a)⟩ :: Γ) u R Γn Γl (m a)) : SB Z Γ (tSeq (sFld Z.K (tVar i) te f) u) R Γn Γl (fun rt nx bk ct X => me (fun a => m a rt nx bk ct X) X) := fun φ σ w H Dn rt nx bk ct X hz hA hm k1 k2 k3 k4 k5 => by
  refine he φ σ w H _ _ X hz hA hm (fun a v I1 H1 pa s1 ra => ?_) (kx hA.go k5)
  have hA1 := hA.step s1
  obtain ⟨v', e', l, hl', rfl, e2, fs, e3, e4⟩ := hA1.hold i _ hl
  refine ⟨_, e', p, C, dx, fs, rfl, e3, cl, na, by rw [few _ _ _ e4]; exact hn, ?_⟩
  rw [putF_new (nn _ _ _ e4)]
  exact hu a φ σ (w.to I1) _ Dn rt nx bk ct X hz (at_chO hA1 e' hl' e2 ⟨rfl, e2, _, upd_same, fs, v, rfl, e4, ra⟩) pa k1 (kk2 s1.i k2) (kk2 s1.i k3) (kk2 s1.i k4) k5
/-- self.f of one in the making -/
theorem se_fldM {i : Nat} {p dx C : Addr} {f : Str} {F : Rfs β} {b : β} {B : Rp γ} {g : β → γ} (hl : look Γ i = some ⟨.o (oF p dx C F), i, b⟩) (cl : Cls Z.K C) (na : NoAttr Z.K C f) (h : FldAt F f B g) : SE Z j Γ (tFld Z.K (tVar i) f) B (D.pure (g b)) := fun φ σ w H Q P X hn hA hm kk x => by
  obtain ⟨v', e', l, hl', rfl, e2, fs, e3, e4⟩ := hA.hold i _ hl
  obtain ⟨u, e5, e6⟩ := h _ _ _ e4
  exact ⟨_, e', p, C, dx, fs, u, rfl, e3, cl, na, e5, kk _ u w.I H hm hA.rf (B.up (i_tp j hA.go) e6)⟩
/-! ### __init__ -/
structure GwN (p : Addr) (I H I' H' : Hp) : Prop where
  i : Same I I'
  sub : Same I' H'
  h : ∀ b o, b ≠ p → H b = some o → H' b = some o
  new : ∀ b, b ≠ p → H b ≠ none → I' b = I b
def spN (K : PySem.W.Frag) (mg : Str → Option Value) (C : Addr) (S0 : Rps β) (F : Rfs γ) (to : α → γ) (m : β → D α) : Sp := fun vs H Q E => ∃ (p dx : Addr) (vs' : List V) (I : Hp) (b : β) (P : α → Prop) (X : Ex → Prop), vs = .ref p :: vs' ∧ H p = some (.ins C dx []) ∧ I p = none ∧ Same I H ∧ S0.rep I vs' b ∧ m b P X ∧
  (∀ a fs I' H', P a → I' p = none → GwN p I H I' H' → H' p = some (.ins C dx fs) → F.top I' fs (to a) → Q .non H') ∧ (∀ e c d I' H', X e → GwN p I H I' H' → e.rep K mg I' c d → E c d H')
theorem spN.imp {mg : Str → Option Value} {C : Addr} {S0 : Rps β} {F : Rfs γ} {to : α → γ} {m m' : β → D α} (h : ∀ b P X, m' b P X → m b P X) : ∀ vs H Q E, spN K mg C S0 F to m' vs H Q E → spN K mg C S0 F to m vs H Q E := fun _ _ _ _ ⟨p, dx, vs', I, b, P, X, a1, a2, a3, a4, a5, a6, a7, a8⟩ => ⟨p, dx, vs', I, b, P, X, a1, a2, a3, a4, a5, h b P X a6, a7, a8⟩
/-- a body read: an __init__ -/
theorem fnN {mg : Str → Option Value} {N : List Str} {t : TS} {C : Addr} {S0 : Rps β} {F : Rfs γ} {to : α → γ} {of : γ → α} {cs : β → List Cell} {m0 : β → D α} {m : β → M Unit γ Unit} {E : XK} (hto : ∀ s, to (of s) = s) (pr : Prm S0 1 cs) (pl : ∀ J I vs b, S0.top J I vs b → vs.length + 1 ≤ N.length) {Γl : β → Unit → List Cell}
    (hb : ∀ p dx b, SB ⟨K, mg, fun _ => E, N.length⟩ (⟨.o (oF p dx C rf0), 0, ()⟩ :: cs b) t (Rf.of rN) (fun s => [⟨.o (oF p dx C F), 0, s⟩]) (Γl b) (m b))
    (hm : ∀ b P X, m0 b P X → m b (fun _ => False) (fun s => P (of s)) (fun _ => False) (fun _ => False) X) {vs : List V} {H : Hp} {Q : VK} (h : spN K mg C S0 F to m0 vs H Q E) : t { nx := fun _ H' => Q .non H', rt := Q } (L2.start N vs) H := by
  obtain ⟨p, dx, vs', I, b, P, X, rfl, hp, ip, s, rp, km, kq, ke⟩ := h
  have l := pl _ _ _ _ rp
  have l' : (V.ref p :: vs').length ≤ N.length := by rw [List.length_cons]; exact l
  let H0 : Hp := fun c => if c = p then none else H c
  have h0 : ∀ {c}, H0 c ≠ none → c ≠ p ∧ H0 c = H c := fun {c} h => by
    by_cases z : c = p
    · exact absurd (if_pos z) h
    · exact ⟨z, if_neg z⟩
  have h1 : ∀ {c o}, H0 c = some o → c ≠ p ∧ H c = some o := fun {c o} h => by
    have := h0 (nn h)
    exact ⟨this.1, this.2 ▸ h⟩
  let w : Wd := ⟨I, fun c => if c = p then some 0 else none, fun _ => none⟩
  have ow : ∀ c i, w.own c = some i → c = p := fun c i h => by
    by_cases z : c = p
    · exact z
    · rw [show w.own c = none from if_neg z] at h
      cases h
  have gf : Gf w H0 w H := ⟨Same.refl _, fun _ _ => rfl, fun c hc => if_neg (h0 hc).1, fun _ _ => rfl, fun c o _ hc => (h1 hc).2, s, fun c i h => by rw [ow c i h]; exact ⟨ip, nn hp, rfl⟩, (fun _ _ h => nomatch h), (fun c i ns h _ => nomatch h), fun c hc => by rw [← (h0 hc).2]; exact hc⟩
  have gw : ∀ {w' : Wd} {H' : Hp}, Gf w H0 w' H' → GwN p I H w'.I H' := fun g => ⟨g.i, g.sub, fun c o n hc => g.keep c o rfl (show H0 c = some o from (if_neg n).trans hc), fun c n hc => g.inew c (by rw [show H0 c = H c from if_neg n]; exact hc)⟩
  refine hb p dx b ⟨N.length, w, H0⟩ (L2.start N (.ref p :: vs')) w H _ _ _ _ _ X rfl ⟨gf, start_len l', hold_of (holdCc ⟨.ref p, start_at rfl l', lab1 p, fun c hc => by rw [lab1_eq hc]; exact ⟨if_pos rfl, nn hp⟩, rfl, lab1_at p, [], hp, rfl⟩ (pr I I vs' b _ _ H rp (Same.refl _) (Same.refl _) fun k v e => by
      rw [Nat.add_comm]
      exact start_at (by simpa using e) l'))⟩ (hm b P X km) (fun _ _ _ _ z => z.elim) (fun s' σ' w' H' ps a _ => ?_) (fun _ _ _ _ z => z.elim) (fun _ _ _ _ z => z.elim) (fun e c d w' H' xe g r _ => ke e c d w'.I H' xe (gw g) r)
  obtain ⟨v, e, l, hl, _, e2, fs, e3, e4⟩ := a.hold 0 ⟨.o (oF p dx C F), 0, s'⟩ rfl
  exact kq (of s') fs w'.I H' ps (a.go.apo p 0 (hl p e2).1).1 (gw a.go) e3 (by rw [hto]; exact e4)
/-! ### C(..) -/
theorem go_made {w : Wd} {H1 I' H' : Hp} {x dx C : Addr} {fs : List (Str × V)} (hx : H1 x = none) (hd : H1 dx = none) (ne : dx ≠ x) (ip : I' x = none) (g : GwN x w.I (upd (upd H1 dx (.own x)) x (.ins C dx [])) I' H') (e : H' x = some (.ins C dx fs)) : Go w H1 (upd I' x (.ins C dx fs)) H' := by
  have old : ∀ {b o}, H1 b = some o → b ≠ x ∧ (upd (upd H1 dx (.own x)) x (.ins C dx [])) b = some o := fun {b o} h => by
    have n1 : b ≠ x := fun z => by rw [z, hx] at h; cases h
    have n2 : b ≠ dx := fun z => by rw [z, hd] at h; cases h
    exact ⟨n1, by rw [upd_ne n1, upd_ne n2]; exact h⟩
  refine .of_gw ⟨g.i.trans (My.same_upd ip), fun b o q => ?_, fun b o q => g.h b o (old q).1 (old q).2, fun b hb => ?_⟩
  · by_cases z : b = x
    · rw [z, upd_same] at q
      rw [z, e]
      exact q
    · rw [upd_ne z] at q
      exact g.sub _ _ q
  · obtain ⟨o, q⟩ := sm hb
    rw [upd_ne (old q).1]
    exact g.new b (old q).1 (nn (old q).2)
theorem go_madeX {w : Wd} {H1 I' H' : Hp} {x dx C : Addr} (hx : H1 x = none) (hd : H1 dx = none) (ne : dx ≠ x) (g : GwN x w.I (upd (upd H1 dx (.own x)) x (.ins C dx [])) I' H') : Go w H1 I' H' := by
  have old : ∀ {b o}, H1 b = some o → b ≠ x ∧ (upd (upd H1 dx (.own x)) x (.ins C dx [])) b = some o := fun {b o} h => by
    have n1 : b ≠ x := fun z => by rw [z, hx] at h; cases h
    have n2 : b ≠ dx := fun z => by rw [z, hd] at h; cases h
    exact ⟨n1, by rw [upd_ne n1, upd_ne n2]; exact h⟩
  refine .of_gw ⟨g.i, g.sub, fun b o q => g.h b o (old q).1 (old q).2, fun b hb => ?_⟩
  obtain ⟨o, q⟩ := sm hb
  exact g.new b (old q).1 (nn (old q).2)
theorem mk_run {C : Addr} {S0 : Rps β} {F : Rfs γ} {to : α → γ} {k : β → D α} {us : List V} {w : Wd} {H1 : Hp} {E : XK} {P : α → Prop} {X : Ex → Prop} {b : β} {Q : VK} {mg : Str → Option Value} (s : Same w.I H1) (rb : S0.rep w.I us b) (pb : k b P X)
    (kk : ∀ a v I' H', P a → Go w H1 I' H' → (rCl C F to).rep I' v a → Q v H') (xx : ∀ e c d I' H', X e → Go w H1 I' H' → e.rep K mg I' c d → E c d H') :
    ∀ x dx, H1 x = none → H1 dx = none → dx ≠ x → spN K mg C S0 F to k (.ref x :: us) (upd (upd H1 dx (.own x)) x (.ins C dx [])) (fun v H2 => v = .non ∧ Q (.ref x) H2) E := fun x dx hx hd ne => by
  have ip : w.I x = none := s.free hx
  refine ⟨x, dx, us, w.I, b, P, X, rfl, upd_same, ip, fun c o q => ?_, rb, pb, fun a fs I' H' pa ix g e hF => ⟨rfl, ?_⟩, fun e c d I' H' xe g r => xx e c d I' H' xe (go_madeX hx hd ne g) r⟩
  · have q1 := s _ _ q
    rw [upd_ne (fun z => by rw [z, hx] at q1; cases q1), upd_ne (fun z => by rw [z, hd] at q1; cases q1)]
    exact q1
  · exact kk a _ _ _ pa (go_made hx hd ne ix g e) ⟨x, dx, fs, rfl, upd_same, F.mono (My.same_upd ix) hF⟩
/-- C(e, ..) -/
theorem se_mkX {C : Addr} {S0 : Rps β} {F : Rfs γ} {to : α → γ} {k : β → D α} {t : TA} {mb : D β} {Ef : XK} (hE : Z.E = fun _ => Ef := by rfl) (h : SA Z false Γ t S0 mb) : SE Z j Γ (tMake C (spN Z.K Z.mg C S0 F to k) [] Ef t) (rCl C F to) (D.bind mb k) := fun φ σ w H Q P X hn hA hm kk x =>
  h φ σ w H _ _ X hn hA hm (fun b us I1 H1 pb s1 rb x1 dx hx hd ne => by
    rw [List.append_nil]
    exact mk_run (w := w.to I1) s1.sub rb pb (fun a v I' H' pa g r => kk a v I' H' pa (s1.trans g) ((rCl C F to).up (i_tp (w := w.to I') j (hA.step (s1.trans g)).go) r)) (fun e c d I' H' xe g r => by
      have := x e c d I' H' xe (s1.trans g) r
      rw [hE] at this
      exact this) x1 dx hx hd ne) x
/-- C(e, ..), where nothing is raised -/
theorem se_mk {C : Addr} {S0 : Rps β} {F : Rfs γ} {to : α → γ} {k : β → D α} {t : TA} {mb : D β} {Ef : XK} (h : SA Z false Γ t S0 mb) : SE Z j Γ (tMake C (spN Z.K Z.mg C S0 F to k) [] Ef t) (rCl C F to) (D.bind mb fun b => D.nox (k b)) := fun φ σ w H Q P X hn hA hm kk x =>
  h φ σ w H _ _ X hn hA hm (fun b us I1 H1 pb s1 rb x1 dx hx hd ne => by
    rw [List.append_nil]
    exact mk_run (w := w.to I1) s1.sub rb pb (fun a v I' H' pa g r => kk a v I' H' pa (s1.trans g) ((rCl C F to).up (i_tp (w := w.to I') j (hA.step (s1.trans g)).go) r)) (fun _ _ _ _ _ z => z.elim) x1 dx hx hd ne) x
/-- how keywords and defaults come to the parameters -/
def Pick (S1 : Rps α) (S2 : Rps β) (g : List V → List V → List V) (S0 : Rps γ) (f : α → β → γ) : Prop := ∀ I vs zs a b, S1.rep I vs a → S2.rep I zs b → S0.rep I (g vs zs) (f a b)
/-- C(e, .., k = e, ..) -/
theorem se_mkKX {n m : Nat} {C : Addr} {S1 : Rps α} {S2 : Rps β} {S0 : Rps δ} {F : Rfs γ} {to : κ → γ} {f : α → β → δ} {gV : List V → List V → List V} {k : δ → D κ} {t tk : TA} {ma : D α} {mb : D β} {Ef : XK} (hE : Z.E = fun _ => Ef := by rfl) (ln : ∀ J I vs b, S1.top J I vs b → vs.length = n) (lm : ∀ J I vs b, S2.top J I vs b → vs.length = m)
    (hg : ∀ x vs zs, gV (x :: vs) zs = x :: gV vs zs) (pk : Pick S1 S2 gV S0 f) (h : SA Z false Γ t S1 ma) (h2 : SA Z false Γ tk S2 mb) : SE Z j Γ (tMakeK C n m (spN Z.K Z.mg C S0 F to k) gV Ef t tk) (rCl C F to) (D.bind ma fun a => D.bind mb fun b => k (f a b)) := fun φ σ w H Q P X hn hA hm kk x =>
  h φ σ w H _ _ X hn hA hm (fun a vs I1 H1 pa s1 ra => h2 φ σ (w.to I1) H1 _ _ X hn (hA.step s1) pa (fun b zs I2 H2 pb s2 rb => ⟨ln _ _ _ _ ra, lm _ _ _ _ rb, fun x1 dx hx hd ne => by
    rw [hg]
    have g0 := s1.trans s2
    exact mk_run (w := w.to I2) s2.sub (pk _ _ _ _ _ (S1.mono s2.i s2.i ra) rb) pb (fun a v I' H' pa g r => kk a v I' H' pa (g0.trans g) ((rCl C F to).up (i_tp (w := w.to I') j (hA.step (g0.trans g)).go) r)) (fun e c d I' H' xe g r => by
      have := x e c d I' H' xe (g0.trans g) r
      rw [hE] at this
      exact this) x1 dx hx hd ne⟩) (xg s1 x)) x
theorem se_mkK {n m : Nat} {C : Addr} {S1 : Rps α} {S2 : Rps β} {S0 : Rps δ} {F : Rfs γ} {to : κ → γ} {f : α → β → δ} {gV : List V → List V → List V} {k : δ → D κ} {t tk : TA} {ma : D α} {mb : D β} {Ef : XK} (ln : ∀ J I vs b, S1.top J I vs b → vs.length = n) (lm : ∀ J I vs b, S2.top J I vs b → vs.length = m)
    (hg : ∀ x vs zs, gV (x :: vs) zs = x :: gV vs zs) (pk : Pick S1 S2 gV S0 f) (h : SA Z false Γ t S1 ma) (h2 : SA Z false Γ tk S2 mb) : SE Z j Γ (tMakeK C n m (spN Z.K Z.mg C S0 F to k) gV Ef t tk) (rCl C F to) (D.bind ma fun a => D.bind mb fun b => D.nox (k (f a b))) := fun φ σ w H Q P X hn hA hm kk x =>
  h φ σ w H _ _ X hn hA hm (fun a vs I1 H1 pa s1 ra => h2 φ σ (w.to I1) H1 _ _ X hn (hA.step s1) pa (fun b zs I2 H2 pb s2 rb => ⟨ln _ _ _ _ ra, lm _ _ _ _ rb, fun x1 dx hx hd ne => by
    rw [hg]
    have g0 := s1.trans s2
    exact mk_run (w := w.to I2) s2.sub (pk _ _ _ _ _ (S1.mono s2.i s2.i ra) rb) pb (fun a v I' H' pa g r => kk a v I' H' pa (g0.trans g) ((rCl C F to).up (i_tp (w := w.to I') j (hA.step (g0.trans g)).go) r)) (fun _ _ _ _ _ z => z.elim) x1 dx hx hd ne⟩) (xg s1 x)) x
/-- f(e, .., k = e, ..) -/
theorem se_callN {n m : Nat} {S1 : Rps α} {S2 : Rps β} {S0 : Rps δ} {R : Rp γ} {f : α → β → δ} {gV : List V → List V → List V} {k : δ → D γ} {t tk : TA} {ma : D α} {mb : D β} {E : XK} (ln : ∀ J I vs b, S1.top J I vs b → vs.length = n) (lm : ∀ J I vs b, S2.top J I vs b → vs.length = m)
    (pk : Pick S1 S2 gV S0 f) (h : SA Z false Γ t S1 ma) (h2 : SA Z false Γ tk S2 mb) : SE Z j Γ (tCallN n m (spF0 S0 R k) gV E t tk) R (D.bind ma fun a => D.bind mb fun b => D.nox (k (f a b))) := fun φ σ w H Q P X hn hA hm kk x =>
  h φ σ w H _ _ X hn hA hm (fun a vs I1 H1 pa s1 ra => h2 φ σ (w.to I1) H1 _ _ X hn (hA.step s1) pa (fun b zs I2 H2 pb s2 rb => ⟨ln _ _ _ _ ra, lm _ _ _ _ rb, I2, _, P, s2.sub, pk _ _ _ _ _ (S1.mono s2.i s2.i ra) rb, pb, fun c v I' H' pc g' rc => by
    have g0 := s1.trans s2
    exact kk c v I' H' pc (g0.trans (.of_gw g')) (R.up (i_tp (w := w.to I') j (hA.step (g0.trans (.of_gw g'))).go) rc)⟩) (xg s1 x)) x
/-- f(e, ..), keywords left out -/
theorem se_callD {S1 : Rps α} {S0 : Rps δ} {R : Rp γ} {f : α → δ} {dvs : List V} {k : δ → D γ} {t : TA} {ma : D α} {E : XK} (pk : ∀ I vs a, S1.rep I vs a → S0.rep I (vs ++ dvs) (f a)) (h : SA Z false Γ t S1 ma) : SE Z j Γ (tCall (spF0 S0 R k) dvs E t) R (D.bind ma fun a => D.nox (k (f a))) := fun φ σ w H Q P X hn hA hm kk x =>
  h φ σ w H _ _ X hn hA hm (fun a vs I1 H1 pa s1 ra => ⟨I1, _, P, s1.sub, pk _ _ _ ra, pa, fun c v I' H' pc g' rc => kk c v I' H' pc (s1.trans (.of_gw g')) (R.up (i_tp (w := w.to I') j (hA.step (s1.trans (.of_gw g'))).go) rc)⟩) x
/-- C(e, ..), keywords left out -/
theorem se_mkDX {C : Addr} {S1 : Rps β} {S0 : Rps δ} {F : Rfs γ} {to : α → γ} {f : β → δ} {dvs : List V} {k : δ → D α} {t : TA} {mb : D β} {Ef : XK} (hE : Z.E = fun _ => Ef := by rfl) (pk : ∀ I vs a, S1.rep I vs a → S0.rep I (vs ++ dvs) (f a)) (h : SA Z false Γ t S1 mb) : SE Z j Γ (tMake C (spN Z.K Z.mg C S0 F to k) dvs Ef t) (rCl C F to) (D.bind mb fun b => k (f b)) := fun φ σ w H Q P X hn hA hm kk x =>
  h φ σ w H _ _ X hn hA hm (fun b us I1 H1 pb s1 rb x1 dx hx hd ne => by
    exact mk_run (w := w.to I1) s1.sub (pk _ _ _ rb) pb (fun a v I' H' pa g r => kk a v I' H' pa (s1.trans g) ((rCl C F to).up (i_tp (w := w.to I') j (hA.step (s1.trans g)).go) r)) (fun e c d I' H' xe g r => by
      have := x e c d I' H' xe (s1.trans g) r
      rw [hE] at this
      exact this) x1 dx hx hd ne) x
theorem se_mkD {C : Addr} {S1 : Rps β} {S0 : Rps δ} {F : Rfs γ} {to : α → γ} {f : β → δ} {dvs : List V} {k : δ → D α} {t : TA} {mb : D β} {Ef : XK} (pk : ∀ I vs a, S1.rep I vs a → S0.rep I (vs ++ dvs) (f a)) (h : SA Z false Γ t S1 mb) : SE Z j Γ (tMake C (spN Z.K Z.mg C S0 F to k) dvs Ef t) (rCl C F to) (D.bind mb fun b => D.nox (k (f b))) := fun φ σ w H Q P X hn hA hm kk x =>
  h φ σ w H _ _ X hn hA hm (fun b us I1 H1 pb s1 rb x1 dx hx hd ne => mk_run (w := w.to I1) s1.sub (pk _ _ _ rb) pb (fun a v I' H' pa g r => kk a v I' H' pa (s1.trans g) ((rCl C F to).up (i_tp (w := w.to I') j (hA.step (s1.trans g)).go) r)) (fun _ _ _ _ _ z => z.elim) x1 dx hx hd ne) x
/-! ### things of any kind, taken as what they are -/
theorem SE.unI {t : TE} {m : D PyData} (h : SE Z j Γ t (rD Z.K) m) : SE Z j Γ t rI (D.bind m fun d => fun P _ => ∃ n, d = .int n ∧ P n) := SE.cast (fun J I v d P X r hp => by
  obtain ⟨n, rfl, pn⟩ := hp
  refine ⟨n, pn, ?_⟩
  cases r.1
  rfl) h
theorem SE.unB {t : TE} {m : D PyData} (h : SE Z j Γ t (rD Z.K) m) : SE Z j Γ t rB (D.bind m fun d => fun P _ => ∃ n, d = .bool n ∧ P n) := SE.cast (fun J I v d P X r hp => by
  obtain ⟨n, rfl, pn⟩ := hp
  refine ⟨n, pn, ?_⟩
  cases r.1
  rfl) h
theorem SE.unOI {t : TE} {m : D PyData} (h : SE Z j Γ t (rD Z.K) m) : SE Z j Γ t (rO rI) (D.bind m fun d => fun P _ => ∃ o, d = encO PyData.int o ∧ P o) := SE.cast (fun J I v d P X r hp => by
  obtain ⟨o, rfl, pn⟩ := hp
  refine ⟨o, pn, ?_⟩
  cases o with
  | none =>
    have := r.1
    cases this
    rfl
  | some n =>
    have := r.1
    cases this
    exact ⟨(fun z => nomatch z), rfl⟩) h
/-- a list of things of any kind, taken apart -/
class RowD (K : PySem.W.Frag) (S : Rps β) where
  enc : β → List PyData
  back : ∀ {I : Hp} {vs : List V} {b : β}, Paired ((rD K).rep I) vs (enc b) → S.rep I vs b
instance : RowD K rs0 := ⟨fun _ => [], fun {I vs b} h => by cases h; rfl⟩
instance {S : Rps β} [r : RowD K S] : RowD K (rsC rI S) := ⟨fun b => .int b.1 :: r.enc b.2, fun {I vs b} h => by
  cases h with
  | cons h t =>
    refine ⟨_, _, rfl, ?_, r.back t⟩
    have := h.1
    cases this
    rfl⟩
instance {S : Rps β} [r : RowD K S] : RowD K (rsC rB S) := ⟨fun b => .bool b.1 :: r.enc b.2, fun {I vs b} h => by
  cases h with
  | cons h t =>
    refine ⟨_, _, rfl, ?_, r.back t⟩
    have := h.1
    cases this
    rfl⟩
instance {S : Rps β} [r : RowD K S] : RowD K (rsC (rO rI) S) := ⟨fun b => encO PyData.int b.1 :: r.enc b.2, fun {I vs b} h => by
  obtain ⟨o, b⟩ := b
  cases h with
  | cons h t =>
    refine ⟨_, _, rfl, ?_, r.back t⟩
    cases o with
    | none =>
      have := h.1
      cases this
      rfl
    | some n =>
      have := h.1
      cases this
      exact ⟨(fun z => nomatch z), rfl⟩⟩
instance {S : Rps β} [r : RowD K S] : RowD K (rsC (rD K) S) := ⟨fun b => b.1 :: r.enc b.2, fun {I vs b} h => by
  cases h with
  | cons h t => exact ⟨_, _, rfl, h, r.back t⟩⟩
theorem SE.rowD {t : TE} {S : Rps β} [r : RowD Z.K S] {m : D (List PyData)} (h : SE Z j Γ t (rL (rD Z.K)) m) : SE Z j Γ t (rLr S) (D.bind m fun xs => fun P _ => ∃ b : β, xs = r.enc b ∧ P ⟨b⟩) := SE.cast (fun J I v o P X q hp => by
  obtain ⟨b, rfl, pb⟩ := hp
  obtain ⟨a, vs, e, h, l, pr⟩ := q
  exact ⟨⟨b⟩, pb, a, vs, e, h, r.back pr⟩) h
theorem ro_strS : ROA (fun xs H Q => ∃ a, xs = [.str a] ∧ Q (.str a) H) (rsC rS rs0) rS (fun b => D.pure b.1) := fun J I H vs b Q P X sj s ⟨v, r, e, e1, h2⟩ hk q => by
  cases (show r = [] from h2)
  subst e
  exact ⟨b.1, by rw [e1.1], q _ _ I H hk (Gw.refl (sj.trans s)) ⟨rfl, e1.2⟩⟩
/-- two lists without items -/
theorem ro_neNil {A B : Rp α} : RO2 (rNeD K) (rL A) (rL B) rB (fun a b => D.need (a = [] ∧ b = []) (D.pure false)) := fun J I H v u a b Q P X sj s ⟨p, vs, e, h1, l1, pr⟩ ⟨p2, us, e2, h2, l2, pr2⟩ hk q => by
  obtain ⟨⟨rfl, rfl⟩, hk⟩ := hk
  cases pr
  cases pr2
  subst e e2
  have := q false (.bl false) I H hk (Gw.refl (sj.trans s)) rfl
  exact ⟨.list [], .list [], .lst (SqL.of (s _ _ h1)) .nil, .lst (SqL.of (s _ _ h2)) .nil, by decide, by decide, this⟩
/-! ### lists that are handed back as new ones -/
@[reducible] def rfL (A : Rp α) : Rf (List α) := fun w H v ys => ∃ p us i, v = .ref p ∧ w.own p = some i ∧ H p = some (.lst us) ∧ ys.length ≤ sizeLine ∧ Paired (A.rep w.I) us ys
/-- return x, a list of the slot's own -/
theorem sb_retL {i : Nat} {A : Rp α} {xs : List α} (hl : look Γ i = some ⟨.l A, i, xs⟩) : SB Z Γ (tRet (tVar i)) (rfL A) Γn Γl (fun rt _ _ _ _ => rt xs) := fun φ σ w H Dn rt nx bk ct X hn hA hm k1 k2 k3 k4 k5 => by
  obtain ⟨v, e, L, vs, e1, e2, e3, e4, e5⟩ := hA.hold i _ hl
  exact ⟨v, e, k1 xs v w H hm hA.go ⟨L, vs, i, e1, e2, e3, e4, e5⟩⟩
theorem gf_own {w0 w : Wd} {H0 H : Hp} {i : Nat} {p : Addr} {us : List V} (g : Gf w0 H0 w H) (h0 : H0 p = none) (ip : w.I p = none) (hp : H p = some (.lst us)) (hw : w.wl p = none) : Gf w0 H0 ⟨w.I, fun b => if b = p then some i else w.own b, w.wl⟩ H := by
  have old : ∀ {b : Addr}, H0 b ≠ none → b ≠ p := fun hb z => hb (by rw [z]; exact h0)
  refine ⟨g.i, g.inew, fun b hb => (if_neg (old hb)).trans (g.onew b hb), g.wnew, g.keep, g.sub, fun b k e => ?_, g.apw, g.wells, g.dom⟩
  have e' : (if b = p then some i else w.own b) = some k := e
  by_cases z : b = p
  · subst z
    exact ⟨ip, nn hp, hw⟩
  · rw [if_neg z] at e'
    exact g.apo b k e'
/-- return (a new list) -/
theorem sb_retSN {te : TE} {A : Rp α} {m : D (List α)} (h : SN Z Γ te A m) : SB Z Γ (tRet te) (rfL A) Γn Γl (fun rt _ _ _ X => m rt X) := fun φ σ w H Dn rt nx bk ct X hn hA hm k1 k2 k3 k4 k5 =>
  h φ σ w H _ _ X hn hA hm (fun ys us p I' H' py g hp ip ep ly pr => by
    have oo := own_fresh hA hp
    have h0 : φ.H0 p = none := by
      cases e : φ.H0 p with
      | none => rfl
      | some o => exact absurd hp (hA.go.dom p (nn e))
    exact k1 ys (.ref p) ⟨I', fun b => if b = p then some 0 else w.own b, w.wl⟩ H' py (gf_own (w := w.to I') (i := 0) (hA.step g).go h0 ip ep oo.2) ⟨p, us, 0, rfl, if_pos rfl, ep, ly, pr⟩) (kx hA.go k5)
def spL (S0 : Rps β) (A : Rp α) (m : β → D (List α)) : Sp := fun vs H Q _ => ∃ (I : Hp) (b : β) (P : List α → Prop), Same I H ∧ S0.rep I vs b ∧ m b P (fun _ => False) ∧
  (∀ ys us p I' H', P ys → Gw I H I' H' → H p = none → I' p = none → H' p = some (.lst us) → ys.length ≤ sizeLine → Paired (A.rep I') us ys → Q (.ref p) H')
theorem fnL {K : PySem.W.Frag} {mg : Str → Option Value} {N : List Str} {t : TS} {S0 : Rps β} {A : Rp α} {cs : β → List Cell} {m0 : β → D (List α)} {m : β → M (List α) Unit Unit} (pr : Prm S0 0 cs) (pl : ∀ J I vs b, S0.top J I vs b → vs.length ≤ N.length) {Γn : β → Unit → List Cell} {Γl : β → Unit → List Cell}
    (hb : ∀ b, SB ⟨K, mg, fun _ _ _ _ => False, N.length⟩ (cs b) t (rfL A) (Γn b) (Γl b) (m b))
    (hm : ∀ b P, m0 b P (fun _ => False) → m b P (fun _ => False) (fun _ => False) (fun _ => False) (fun _ => False)) {vs : List V} {H : Hp} {Q : VK} {E : XK} {q : L2.St → Hp → Prop} (h : spL S0 A m0 vs H Q E) : t { nx := q, rt := Q } (L2.start N vs) H := by
  obtain ⟨I, b, P, s, rp, km, kq⟩ := h
  have l := pl _ _ _ _ rp
  refine hb b ⟨N.length, ⟨I, fun _ => none, fun _ => none⟩, H⟩ (L2.start N vs) ⟨I, fun _ => none, fun _ => none⟩ H _ P _ _ _ _ rfl ⟨⟨Same.refl _, fun _ _ => rfl, fun _ _ => rfl, fun _ _ => rfl, fun _ _ _ h => h, s, (fun _ _ h => nomatch h), (fun _ _ h => nomatch h), fun _ _ ns _ h => ⟨ns, h, rfl⟩, fun _ h => h⟩, start_len l, hold_of (pr I I vs b _ _ H rp (Same.refl _) (Same.refl _) fun k v e => by rw [Nat.zero_add]; exact start_at e l)⟩ (hm b P km) (fun c v w' H' pc g ⟨p, us, i, e1, e2, e3, e4, e5⟩ => ?_) (fun _ _ _ _ z => z.elim) (fun _ _ _ _ z => z.elim) (fun _ _ _ _ z => z.elim) (fun _ _ _ _ _ z => z.elim)
  subst e1
  refine kq c us p w'.I H' pc ⟨g.i, g.sub, fun b o h => g.keep b o rfl h, g.inew⟩ ?_ (g.apo p i e2).1 e3 e4 e5
  cases e : H p with
  | none => rfl
  | some o =>
    have := g.onew p (nn e)
    rw [e2] at this
    cases this
theorem sn_callL {E : XK} {t : TA} {S0 : Rps β} {A : Rp α} {mb : D β} {m : β → D (List α)} (h : SA Z false Γ t S0 mb) : SN Z Γ (tCall (spL S0 A m) [] E t) A (D.bind mb fun b => D.nox (m b)) := fun φ σ w H Q P X hn hA hm k x =>
  h φ σ w H _ _ X hn hA hm (fun b vs I1 H1 pa s1 ra => by
    rw [List.append_nil]
    exact ⟨I1, b, P, s1.sub, ra, pa, fun ys us p I' H' py g hp ip ep ly pr => k ys us p I' H' py (s1.trans (.of_gw g)) (none_of s1 hp) ip ep ly pr⟩) x
/-- the same of a def that draws from a well -/
def spWL (k : Nat) (S0 : Rps β) (A : Rp α) (m : β → D (List α)) : Sp := fun vs H Q _ => ∃ (W : Addr) (ns : List Int) (vs' : List V) (I : Hp) (b : β) (P : List α → Prop), vs = .ref W :: vs' ∧ H W = some (.lst (ns.map V.int)) ∧ ns.length = k ∧ I W = none ∧ Same I H ∧ S0.rep I vs' b ∧ m b P (fun _ => False) ∧
  (∀ ys us p I' H', P ys → Gv W k I H I' H' → H p = none → I' p = none → H' p = some (.lst us) → ys.length ≤ sizeLine → Paired (A.rep I') us ys → Q (.ref p) H')
theorem fnWL {K : PySem.W.Frag} {mg : Str → Option Value} {N : List Str} {t : TS} {k : Nat} {S0 : Rps β} {A : Rp α} {cs : β → List Cell} {m0 : β → D (List α)} {m : β → M (List α) Unit Unit} (pr : Prm S0 1 cs) (pl : ∀ J I vs b, S0.top J I vs b → vs.length + 1 ≤ N.length) {Γn : β → Unit → List Cell} {Γl : β → Unit → List Cell}
    (hb : ∀ b, SB ⟨K, mg, fun _ _ _ _ => False, N.length⟩ (⟨.w k, 0, ()⟩ :: cs b) t (rfL A) (Γn b) (Γl b) (m b))
    (hm : ∀ b P, m0 b P (fun _ => False) → m b P (fun _ => False) (fun _ => False) (fun _ => False) (fun _ => False)) {vs : List V} {H : Hp} {Q : VK} {E : XK} {q : L2.St → Hp → Prop} (h : spWL k S0 A m0 vs H Q E) : t { nx := q, rt := Q } (L2.start N vs) H := by
  obtain ⟨W, ns, vs', I, b, P, rfl, hW, hk, iW, s, rp, km, kq⟩ := h
  have l := pl _ _ _ _ rp
  have l' : (V.ref W :: vs').length ≤ N.length := by rw [List.length_cons]; exact l
  have hw0 : ∀ c i, (if c = W then some 0 else none) = some i → c = W := fun c i h => by
    by_cases z : c = W
    · exact z
    · rw [if_neg z] at h
      cases h
  refine hb b ⟨N.length, ⟨I, fun _ => none, fun c => if c = W then some 0 else none⟩, H⟩ (L2.start N (.ref W :: vs')) ⟨I, fun _ => none, fun c => if c = W then some 0 else none⟩ H _ P _ _ _ _ rfl ⟨⟨Same.refl _, fun _ _ => rfl, fun _ _ => rfl, fun _ _ => rfl, fun _ _ _ h => h, s, (fun _ _ h => nomatch h), fun c i h => ?_, fun _ _ ns _ h => ⟨ns, h, rfl⟩, fun _ h => h⟩, start_len l', hold_of (holdCc ⟨.ref W, start_at rfl l', W, ns, rfl, if_pos rfl, hW, hk⟩ (pr I I vs' b _ _ H rp (Same.refl _) (Same.refl _) fun k v e => by
      rw [Nat.add_comm]
      exact start_at (by simpa using e) l'))⟩ (hm b P km) (fun c v w' H' pc g ⟨p, us, i, e1, e2, e3, e4, e5⟩ => ?_) (fun _ _ _ _ z => z.elim) (fun _ _ _ _ z => z.elim) (fun _ _ _ _ z => z.elim) (fun _ _ _ _ _ z => z.elim)
  · have := hw0 c i h
    subst this
    exact ⟨iW, nn hW⟩
  · subst e1
    obtain ⟨n2, q1, q2⟩ := g.wells W 0 ns (if_pos rfl) hW
    refine kq c us p w'.I H' pc ⟨g.i, g.sub, fun b o z h => g.keep b o (if_neg z) h, ⟨n2, q1, q2.trans hk⟩, g.inew⟩ ?_ (g.apo p i e2).1 e3 e4 e5
    cases e : H p with
    | none => rfl
    | some o =>
      have := g.onew p (nn e)
      rw [e2] at this
      cases this
theorem sn_callWL {E : XK} {k i : Nat} {t : TA} {S0 : Rps β} {A : Rp α} {mb : D β} {m : β → D (List α)} (hw : look Γ i = some ⟨.w k, i, ()⟩) (h : SA Z false Γ t S0 mb) : SN Z Γ (tCall (spWL k S0 A m) [] E (tCons (tVar i) t)) A (D.bind mb fun b => D.nox (m b)) := fun φ σ w H Q P X hn hA hm kk x => by
  obtain ⟨v, e, _⟩ := hA.hold i _ hw
  refine ⟨v, e, h φ σ w H _ _ X hn hA hm (fun b us I1 H1 pb s1 rb => ?_) x⟩
  obtain ⟨v', e', W, ns, f1, f2, f3, f4⟩ := (hA.step s1).hold i _ hw
  rw [e] at e'
  cases e'
  subst f1
  rw [List.append_nil]
  have hi := (hA.step s1).go.apw W i f2
  refine ⟨W, ns, us, I1, b, P, rfl, f3, f4, hi.1, s1.sub, rb, pb, fun ys us p I' H' py g hp ip ep ly pr => ?_⟩
  exact kk ys us p I' H' py (s1.trans (Go.of_gv (w := w.to I1) f2 f3 f4 g)) (none_of s1 hp) ip ep ly pr
end
end Lx
namespace Mo
open PySem PySem.Spec PyProof.Rows L2 TL
open Lx Lw Ls
open My (Asc minI maxI)
/-! ### rules and wishes -/
structure RuleR where
  keep : Int
  worn : Int
  alone : Int
  anew : Bool
  own : Bool
  common : Bool
  never : Bool
  strict : Bool
  deriving DecidableEq
structure WishR where
  atmost : Option Int
  left : Int
  worn : Int
  anew : Bool
  kept : Bool
  firm : Bool
  deriving DecidableEq
/-! ### words as they are read -/
abbrev TW := Tu (Str × Option Int × Unit)
def tw (n : Str) (o : Option Int) : TW := ⟨(n, o, ())⟩
def nameB (z : Str) : Bool := ofB (Str.ofString "abcdefghijklmnopqrstuvwxyz") 1 8 z
def wordP (pt : Str × Str × Str) : Option TW := if nameB pt.1 = true then (if pt.2.1 = Str.ofString "" then some (tw pt.1 none) else if figB pt.2.2 = true then some (tw pt.1 (intText? pt.2.2)) else none) else none
def wordT (z : Str) : Option TW := wordP (Txt.partition z (Str.ofString " "))
def wordsT (z : Str) : List (Option TW) := if Txt.stripChars z (Str.ofString " ") = Str.ofString "" then [] else (Txt.split z (Str.ofString ",")).map fun p => wordT (Txt.stripChars p (Str.ofString " "))
def suitT (ns ts : List Str) (d : TW) : Bool := if decide (d.r.1 ∈ ns) = true then d.r.2.1.isSome else (!decide (d.r.1 ∈ ts) || d.r.2.1.isNone)
def badT (ns ts : List Str) : Option TW → Bool
  | none => true
  | some d => !suitT ns ts d
def wrongT (ns ts : List Str) (ws : List (Option TW)) : Option Nat := ws.findIdx? (badT ns ts)
def numsT (name : Str) (ds : List TW) : List (Option Int) := (ds.filter fun d => decide (d.r.1 = name)).map fun d => d.r.2.1
def intsT (name : Str) (ds : List TW) : List Int := (numsT name ds).filterMap id
def toldT (name : Str) (ds : List TW) : Bool := decide (tw name none ∈ ds)
def ruleT (ds : List TW) : RuleR := ⟨(minI (intsT "keep" ds)).getD 0, (minI (intsT "worn" ds)).getD 0, (minI (intsT "alone" ds)).getD 0, toldT "anew" ds, toldT "own" ds, toldT "common" ds, toldT "never" ds, toldT "strict" ds⟩
def wishT (ds : List TW) : WishR := ⟨minI (intsT "atmost" ds), (maxI (intsT "left" ds)).getD 0, (minI (intsT "worn" ds)).getD 0, toldT "anew" ds, toldT "kept" ds, toldT "firm" ds⟩
def rNs : List Str := ["keep", "worn", "alone"]
def rTs : List Str := ["anew", "own", "common", "never", "strict"]
def wNs : List Str := ["atmost", "left", "worn"]
def wTs : List Str := ["anew", "kept", "firm"]
theorem words_all {ns ts : List Str} : ∀ {ws : List (Option TW)}, wrongT ns ts ws = none → ∃ ds : List TW, ws = ds.map some ∧ ∀ d ∈ ds, suitT ns ts d = true := fun {ws} h => by
  have h' := List.findIdx?_eq_none_iff.mp h
  clear h
  induction ws with
  | nil => exact ⟨[], rfl, fun _ z => nomatch z⟩
  | cons w r ih =>
    obtain ⟨ds, e, hd⟩ := ih fun x hx => h' x (List.mem_cons_of_mem _ hx)
    have hw := h' w (List.mem_cons_self ..)
    cases w with
    | none => cases hw
    | some d =>
      refine ⟨d :: ds, by rw [e]; rfl, fun x hx => ?_⟩
      rcases List.mem_cons.mp hx with rfl | hx
      · simpa [badT] using hw
      · exact hd x hx
theorem nums_some {ns ts : List Str} {ds : List TW} {name : Str} (hd : ∀ d ∈ ds, suitT ns ts d = true) (hn : name ∈ ns) : numsT name ds = (intsT name ds).map some := by
  unfold intsT numsT
  induction ds with
  | nil => rfl
  | cons d r ih =>
    have e := ih fun x hx => hd x (List.mem_cons_of_mem _ hx)
    by_cases h : d.r.1 = name
    · have h1 := hd d (List.mem_cons_self ..)
      unfold suitT at h1
      rw [h, if_pos (decide_eq_true hn)] at h1
      obtain ⟨i, hi⟩ := Option.isSome_iff_exists.mp h1
      rw [List.filter_cons, if_pos (decide_eq_true h), List.map_cons, hi, List.filterMap_cons_some (f := id) (b := i) rfl, List.map_cons, ← e]
    · rw [List.filter_cons, if_neg (by rw [decide_eq_false h]; exact Bool.false_ne_true)]
      exact e
theorem told_some (name : Str) (ds : List TW) : decide (some (tw name none) ∈ ds.map some) = toldT name ds := by
  unfold toldT
  rw [decide_eq_decide]
  constructor
  · intro h
    obtain ⟨d, hd, e⟩ := List.mem_map.mp h
    cases e
    exact hd
  · intro h
    exact List.mem_map.mpr ⟨_, h, rfl⟩
def rdRule (z : Str) : D RuleR := fun P X => z.length ≤ 20000 ∧ (∀ ds : List TW, wordsT z = ds.map some → (∀ d ∈ ds, suitT rNs rTs d = true) → P (ruleT ds)) ∧ ∀ i : Nat, wrongT rNs rTs (wordsT z) = some i → X ⟨"NoRule", [("at", .int (i : Int))]⟩
def rdWish (z : Str) : D WishR := fun P X => z.length ≤ 20000 ∧ (∀ ds : List TW, wordsT z = ds.map some → (∀ d ∈ ds, suitT wNs wTs d = true) → P (wishT ds)) ∧ ∀ i : Nat, wrongT wNs wTs (wordsT z) = some i → X ⟨"NoWish", [("at", .int (i : Int))]⟩
theorem decP {p : Prop} {i j : Decidable p} {P : Bool → Prop} (h : P (@decide p i)) : P (@decide p j) := by
  rw [Subsingleton.elim j i]
  exact h
theorem iteT' {c p q : Prop} [Decidable c] (hc : c) (h : p) : if c then p else q := by
  rw [if_pos hc]
  exact h
theorem iteF' {c p q : Prop} [Decidable c] (hc : ¬ c) (h : q) : if c then p else q := by
  rw [if_neg hc]
  exact h
theorem wrong_loop {ns ts : List Str} {P : Option Int → Prop} {ws : List (Option TW)} (h : P ((wrongT ns ts ws).map Int.ofNat)) :
    forD (fun (x2 : Tu (Int × Option TW × Unit)) (s1 : Unit) rt nx (bk ct : Unit → Prop) (X : Ex → Prop) => if x2.r.2.1.isNone = true then if True then rt (some x2.r.1) else nx () else ∃ a, x2.r.2.1 = some a ∧ if (!suitT ns ts a) = true then rt (some x2.r.1) else nx ()) P (fun s => P none) (fun _ => False) (List.map (fun p : Option TW × Nat => Tu.mk ((p.2 : Int), p.1, ())) ws.zipIdx) () := by
  have g : ∀ (ws : List (Option TW)) (k : Nat), P (((wrongT ns ts ws).map (· + k)).map Int.ofNat) → forD (fun (x2 : Tu (Int × Option TW × Unit)) (s1 : Unit) rt nx (bk ct : Unit → Prop) (X : Ex → Prop) => if x2.r.2.1.isNone = true then if True then rt (some x2.r.1) else nx () else ∃ a, x2.r.2.1 = some a ∧ if (!suitT ns ts a) = true then rt (some x2.r.1) else nx ()) P (fun s => P none) (fun _ => False) (List.map (fun p : Option TW × Nat => Tu.mk ((p.2 : Int), p.1, ())) (ws.zipIdx k)) () := fun ws => by
    induction ws with
    | nil => exact fun k h => h
    | cons w r ih =>
      intro k h
      unfold wrongT at h
      rw [List.findIdx?_cons] at h
      rw [List.zipIdx_cons, List.map_cons]
      have step : badT ns ts w = false → forD (fun (x2 : Tu (Int × Option TW × Unit)) (s1 : Unit) rt nx (bk ct : Unit → Prop) (X : Ex → Prop) => if x2.r.2.1.isNone = true then if True then rt (some x2.r.1) else nx () else ∃ a, x2.r.2.1 = some a ∧ if (!suitT ns ts a) = true then rt (some x2.r.1) else nx ()) P (fun s => P none) (fun _ => False) (List.map (fun p : Option TW × Nat => Tu.mk ((p.2 : Int), p.1, ())) (r.zipIdx (k + 1))) () := fun hb => by
        refine ih (k + 1) ?_
        rw [hb, if_neg Bool.false_ne_true] at h
        have e : ((wrongT ns ts r).map (· + (k + 1))) = ((wrongT ns ts r).map (· + 1)).map (· + k) := by
          rw [Option.map_map]
          congr 1
          funext i
          show i + (k + 1) = i + 1 + k
          omega
        rw [e]
        exact h
      cases w with
      | none =>
        unfold forD
        rw [if_pos (show (none : Option TW).isNone = true from rfl), if_pos trivial]
        rw [show badT ns ts none = true from rfl, if_pos rfl] at h
        have : P (some ((0 + k : Nat) : Int)) := h
        rwa [Nat.zero_add] at this
      | some d =>
        unfold forD
        rw [if_neg (show ¬ (some d : Option TW).isNone = true from Bool.false_ne_true)]
        refine ⟨d, rfl, ?_⟩
        cases hs : suitT ns ts d with
        | true =>
          rw [if_neg (by simp)]
          exact step (by show (!suitT ns ts d) = false; rw [hs]; rfl)
        | false =>
          rw [if_pos (by rfl)]
          have hb : badT ns ts (some d) = true := by show (!suitT ns ts d) = true; rw [hs]; rfl
          rw [hb, if_pos rfl] at h
          have : P (some ((0 + k : Nat) : Int)) := h
          rwa [Nat.zero_add] at this
  refine g ws 0 ?_
  have e : (wrongT ns ts ws).map (· + 0) = wrongT ns ts ws := by
    cases wrongT ns ts ws <;> rfl
  rw [e]
  exact h
/-! ### words as they are spelled -/
abbrev NT := Tu (Str × Option Int × Option Int × Unit)
abbrev BT := Tu (Str × Bool × Unit)
def wtext (d : TW) : Str := match d.r.2.1 with
  | none => d.r.1
  | some n => d.r.1 ++ Str.ofString " " ++ nT n
def inWs (ns : List NT) (ts : List BT) : List TW := (ns.filter fun x => !decide (x.r.2.1 = x.r.2.2.1)).map (fun x => tw x.r.1 x.r.2.1) ++ (ts.filter fun x => x.r.2.1).map fun x => tw x.r.1 none
def inW (ns : List NT) (ts : List BT) : Str := Txt.join (Str.ofString ", ") ((inWs ns ts).map wtext)
def okN (x : NT) : Prop := x.r.1.length ≤ 20 ∧ (x.r.2.1 ≠ x.r.2.2.1 → ∃ n, x.r.2.1 = some n ∧ 0 ≤ n ∧ n < 10 ^ 100)
def rNum (r : RuleR) : List NT := [⟨("keep", some r.keep, some 0, ())⟩, ⟨("worn", some r.worn, some 0, ())⟩, ⟨("alone", some r.alone, some 0, ())⟩]
def rTru (r : RuleR) : List BT := [⟨("anew", r.anew, ())⟩, ⟨("own", r.own, ())⟩, ⟨("common", r.common, ())⟩, ⟨("never", r.never, ())⟩, ⟨("strict", r.strict, ())⟩]
def wNum (r : WishR) : List NT := [⟨("atmost", r.atmost, none, ())⟩, ⟨("left", some r.left, some 0, ())⟩, ⟨("worn", some r.worn, some 0, ())⟩]
def wTru (r : WishR) : List BT := [⟨("anew", r.anew, ())⟩, ⟨("kept", r.kept, ())⟩, ⟨("firm", r.firm, ())⟩]
def spellR (r : RuleR) : Str := inW (rNum r) (rTru r)
def spellW (r : WishR) : Str := inW (wNum r) (wTru r)
def okI (n : Int) : Prop := 0 ≤ n ∧ n < 10 ^ 100
def okRule (r : RuleR) : Prop := okI r.keep ∧ okI r.worn ∧ okI r.alone
def okWish (r : WishR) : Prop := (∀ n, r.atmost = some n → okI n) ∧ okI r.left ∧ okI r.worn
theorem rNum_ok {r : RuleR} (h : okRule r) : ∀ x ∈ rNum r, okN x := fun x hx => by
  simp only [rNum, List.mem_cons, List.not_mem_nil, or_false] at hx
  rcases hx with rfl | rfl | rfl
  · exact ⟨by show 4 ≤ 20; decide, fun _ => ⟨_, rfl, h.1⟩⟩
  · exact ⟨by show 4 ≤ 20; decide, fun _ => ⟨_, rfl, h.2.1⟩⟩
  · exact ⟨by show 5 ≤ 20; decide, fun _ => ⟨_, rfl, h.2.2⟩⟩
theorem wNum_ok {r : WishR} (h : okWish r) : ∀ x ∈ wNum r, okN x := fun x hx => by
  simp only [wNum, List.mem_cons, List.not_mem_nil, or_false] at hx
  rcases hx with rfl | rfl | rfl
  · refine ⟨by show 6 ≤ 20; decide, fun e => ?_⟩
    obtain ⟨n, hn⟩ := Option.ne_none_iff_exists'.mp e
    exact ⟨n, hn, h.1 n hn⟩
  · exact ⟨by show 4 ≤ 20; decide, fun _ => ⟨_, rfl, h.2.1⟩⟩
  · exact ⟨by show 4 ≤ 20; decide, fun _ => ⟨_, rfl, h.2.2⟩⟩
theorem rTru_ok (r : RuleR) : ∀ x ∈ rTru r, x.r.1.length ≤ 20 := fun x hx => by
  simp only [rTru, List.mem_cons, List.not_mem_nil, or_false] at hx
  rcases hx with rfl | rfl | rfl | rfl | rfl
  · show 4 ≤ 20; decide
  · show 3 ≤ 20; decide
  · show 6 ≤ 20; decide
  · show 5 ≤ 20; decide
  · show 6 ≤ 20; decide
theorem wTru_ok (r : WishR) : ∀ x ∈ wTru r, x.r.1.length ≤ 20 := fun x hx => by
  simp only [wTru, List.mem_cons, List.not_mem_nil, or_false] at hx
  rcases hx with rfl | rfl | rfl
  · show 4 ≤ 20; decide
  · show 4 ≤ 20; decide
  · show 4 ≤ 20; decide
/-! ### words written and read again -/
def okW (d : TW) : Prop := nameB d.r.1 = true ∧ ∀ n, d.r.2.1 = some n → 0 ≤ n ∧ n < 10 ^ 60
theorem name_sig {z : Str} (h : nameB z = true) : (∀ c ∈ tl z, 97 ≤ c ∧ c ≤ 122) ∧ 1 ≤ z.length ∧ z.length ≤ 8 := by
  unfold nameB ofB inB at h
  simp only [Bool.and_eq_true, decide_eq_true_eq] at h
  refine ⟨fun c hc => ?_, by omega, by omega⟩
  have := List.all_eq_true.mp h.2 c hc
  exact (by decide : ∀ c ∈ (Str.ofString "abcdefghijklmnopqrstuvwxyz").cps.toList, 97 ≤ c ∧ c ≤ 122) c (of_decide_eq_true this)
theorem sp_cons : tl (Str.ofString " ") = 32 :: [] := by decide
theorem co_cons : tl (Str.ofString ",") = 44 :: [] := by decide
theorem word_back {d : TW} (h : okW d) : wordT (wtext d) = some d := by
  obtain ⟨nm, x, u⟩ := d
  obtain ⟨h1, h2⟩ := h
  dsimp only at h1 h2
  have hs := (name_sig h1).1
  have h32 : 32 ∉ tl nm := fun z => by have := hs 32 z; omega
  cases x with
  | none =>
    have e : Txt.partition nm (Str.ofString " ") = (nm, Str.empty, Str.empty) := partition_none sp_cons h32
    show wordT nm = _
    unfold wordT wordP
    rw [e, if_pos h1, if_pos (show Str.empty = Str.ofString "" by decide)]
    rfl
  | some n =>
    obtain ⟨n0, n1⟩ := h2 n rfl
    obtain ⟨m, rfl⟩ : ∃ m : Nat, n = m := ⟨n.toNat, by omega⟩
    have hm : m < 10 ^ 60 := by omega
    have e : Txt.partition (nm ++ Str.ofString " " ++ nT m) (Str.ofString " ") = (nm, Str.ofString " ", nT m) := partition_app sp_cons h32
    show wordT (nm ++ Str.ofString " " ++ nT m) = _
    unfold wordT wordP
    rw [e, if_pos h1, if_neg (show ¬ Str.ofString " " = Str.ofString "" by decide), if_pos (fig_nT hm), int_nT hm]
    rfl
/-- no blank at either end -/
def Ends (z : Str) : Prop := (∃ a r, tl z = a :: r ∧ a ≠ 32) ∧ ∃ s b, tl z = s ++ [b] ∧ b ≠ 32
def blank (z : Str) : Prop := ∀ c ∈ tl z, c = 32
theorem take_blank : ∀ {A : List Nat} {a : Nat} {r : List Nat}, (∀ c ∈ A, c = 32) → a ≠ 32 → (A ++ a :: r).takeWhile (Str.ofString " ").cps.contains = A
  | [], a, r, _, n => by
    have e : (Str.ofString " ").cps = #[32] := by decide
    rw [e, List.nil_append, List.takeWhile_cons, if_neg (by simp; omega)]
  | b :: A, a, r, h, n => by
    have e : (Str.ofString " ").cps = #[32] := by decide
    have hb := h b (List.mem_cons_self ..)
    rw [List.cons_append, List.takeWhile_cons, if_pos (by rw [e, hb]; decide +kernel), take_blank (fun c hc => h c (List.mem_cons_of_mem _ hc)) n]
theorem strip_pad {A x B : Str} (hA : blank A) (hB : blank B) (h : Ends x) : Txt.stripChars (A ++ x ++ B) (Str.ofString " ") = x := by
  obtain ⟨⟨a, r, e1, n1⟩, s, b, e2, n2⟩ := h
  have et : tl (A ++ x ++ B) = tl A ++ (tl x ++ tl B) := by rw [tl_append, tl_append, List.append_assoc]
  have lo : stripLo (Str.ofString " ").cps.contains true (A ++ x ++ B) = (tl A).length := by
    unfold stripLo
    rw [if_pos rfl, show (A ++ x ++ B).cps.toList = _ from et, e1, List.cons_append, take_blank hA n1]
  have hi : stripHi (Str.ofString " ").cps.contains true (A ++ x ++ B) (tl A).length = (tl A).length + (tl x).length := by
    unfold stripHi
    rw [if_pos rfl, show (A ++ x ++ B).cps.toList = _ from et, List.drop_left, List.reverse_append, e2, List.reverse_append, List.reverse_singleton, List.singleton_append]
    rw [take_blank (fun c hc => hB c (List.mem_reverse.mp hc)) n2, List.length_reverse, ← My.len_tl (A ++ x ++ B), show (A ++ x ++ B).cps.toList = _ from et, e2]
    simp only [List.length_append, List.length_cons, List.length_nil]
    omega
  apply ext_tl
  unfold Txt.stripChars
  rw [stripBy_eq, tl_strSub, lo, hi, et, List.drop_left, show (tl A).length + (tl x).length - (tl A).length = (tl x).length by omega, List.take_left]
theorem blank_nil : blank (Str.ofString "") := fun c hc => nomatch (show c ∈ ([] : List Nat) from hc)
theorem strip_id {x : Str} (h : Ends x) : Txt.stripChars x (Str.ofString " ") = x := by
  have := strip_pad (A := Str.ofString "") (B := Str.ofString "") blank_nil blank_nil h
  rwa [show Str.ofString "" ++ x ++ Str.ofString "" = x from ext_tl (by rw [tl_append, tl_append]; show [] ++ tl x ++ [] = tl x; simp)] at this
theorem ends_of {z : Str} (hne : tl z ≠ []) (h : ∀ c ∈ tl z, c ≠ 32) : Ends z := by
  constructor
  · cases e : tl z with
    | nil => exact absurd e hne
    | cons a r => exact ⟨a, r, rfl, h a (by rw [e]; exact List.mem_cons_self ..)⟩
  · obtain ⟨s, b, e⟩ : ∃ s b, tl z = s ++ [b] := ⟨_, _, (List.dropLast_concat_getLast hne).symm⟩
    exact ⟨s, b, e, h b (by rw [e]; simp)⟩
theorem ends_mid {a b c : Str} (ha : Ends a) (hc : Ends c) : Ends (a ++ b ++ c) := by
  obtain ⟨⟨x, r, e1, n1⟩, _⟩ := ha
  obtain ⟨_, s, y, e2, n2⟩ := hc
  refine ⟨⟨x, r ++ tl b ++ tl c, ?_, n1⟩, tl a ++ tl b ++ s, y, ?_, n2⟩
  · rw [tl_append, tl_append, e1]
    simp
  · rw [tl_append, tl_append, e2]
    simp
theorem name_ends {z : Str} (h : nameB z = true) : Ends z := by
  obtain ⟨h1, h2, _⟩ := name_sig h
  refine ends_of (fun e => ?_) fun c hc => ?_
  · have := My.len_tl z
    rw [show z.cps.toList = [] from e] at this
    have : 0 = z.length := this
    omega
  · have := h1 c hc
    omega
theorem wtext_ends {d : TW} (h : okW d) : Ends (wtext d) := by
  obtain ⟨nm, x, u⟩ := d
  cases x with
  | none => exact name_ends h.1
  | some n =>
    obtain ⟨n0, n1⟩ := h.2 n rfl
    obtain ⟨m, rfl⟩ : ∃ m : Nat, n = m := ⟨n.toNat, by omega⟩
    refine ends_mid (name_ends h.1) (ends_of ?_ fun c hc => ?_)
    · rw [show tl (nT (m : Int)) = numL m from tl_nT m]
      exact numL_ne m
    · rw [show tl (nT (m : Int)) = numL m from tl_nT m] at hc
      have := numL_digits m c hc
      omega
theorem wtext_sig {d : TW} (h : okW d) : ∀ c ∈ tl (wtext d), c ≠ 44 ∧ c < 128 := by
  obtain ⟨nm, x, u⟩ := d
  have hs := (name_sig h.1).1
  cases x with
  | none =>
    intro c hc
    have := hs c hc
    omega
  | some n =>
    obtain ⟨n0, n1⟩ := h.2 n rfl
    obtain ⟨m, rfl⟩ : ∃ m : Nat, n = m := ⟨n.toNat, by omega⟩
    intro c hc
    have hc' : c ∈ tl (nm ++ Str.ofString " " ++ nT m) := hc
    rw [tl_append, tl_append, sp_cons, show tl (nT (m : Int)) = numL m from tl_nT m] at hc'
    rcases List.mem_append.mp hc' with h1 | h1
    · rcases List.mem_append.mp h1 with h2 | h2
      · have := hs c h2
        omega
      · rw [List.mem_singleton.mp h2]
        decide
    · have := numL_digits m c h1
      omega
theorem wtext_len {d : TW} (h : okW d) : (wtext d).length ≤ 70 := by
  obtain ⟨nm, x, u⟩ := d
  have hs := (name_sig h.1).2.2
  cases x with
  | none =>
    show nm.length ≤ 70
    have : nm.length ≤ 8 := hs
    omega
  | some n =>
    obtain ⟨n0, n1⟩ := h.2 n rfl
    obtain ⟨m, rfl⟩ : ∃ m : Nat, n = m := ⟨n.toNat, by omega⟩
    have := len_nT (n := m) (by omega)
    show (nm ++ Str.ofString " " ++ nT m).length ≤ 70
    rw [My.len_app, My.len_app]
    have : nm.length ≤ 8 := hs
    show nm.length + 1 + _ ≤ 70
    omega
/-- a word with blanks round it -/
def Pad (p : Str) (d : TW) : Prop := ∃ A B, p = A ++ wtext d ++ B ∧ blank A ∧ blank B
theorem strip_ne {z : Str} (h : ∃ c ∈ tl z, c ≠ 32) : Txt.stripChars z (Str.ofString " ") ≠ Str.ofString "" := fun e => by
  obtain ⟨c, hc, nc⟩ := h
  -- parted at the first and the last sign that is no blank
  have g : ∀ l : List Nat, (∃ c ∈ l, c ≠ 32) → ∃ A a r, l = A ++ a :: r ∧ (∀ c ∈ A, c = 32) ∧ a ≠ 32 := fun l => by
    induction l with
    | nil => exact fun ⟨c, h, _⟩ => nomatch h
    | cons x r ih =>
      intro h
      by_cases q : x = 32
      · obtain ⟨c, hc, nc⟩ := h
        have hr : c ∈ r := by
          rcases List.mem_cons.mp hc with z | z
          · exact absurd (z.trans q) nc
          · exact z
        obtain ⟨A, a, s, e, h1, h2⟩ := ih ⟨c, hr, nc⟩
        exact ⟨x :: A, a, s, by rw [e]; rfl, fun c hc => by
          rcases List.mem_cons.mp hc with z | z
          · exact z.trans q
          · exact h1 c z, h2⟩
      · exact ⟨[], x, r, rfl, (fun c hc => nomatch hc), q⟩
  obtain ⟨A, a, r, e1, hA, na⟩ := g (tl z) ⟨c, hc, nc⟩
  obtain ⟨B, b, s, e2, hB, nb⟩ := g (a :: r).reverse ⟨a, List.mem_reverse.mpr (List.mem_cons_self ..), na⟩
  have e3 : a :: r = s.reverse ++ [b] ++ B.reverse := by
    have := congrArg List.reverse e2
    simpa using this
  have hx : Ends (⟨(s.reverse ++ [b]).toArray⟩ : Str) := by
    refine ⟨?_, s.reverse, b, rfl, nb⟩
    cases hs : s.reverse with
    | nil => exact ⟨b, [], rfl, nb⟩
    | cons x t =>
      rw [hs] at e3
      have : a = x := by simpa using congrArg List.head? e3
      exact ⟨x, t ++ [b], rfl, this ▸ na⟩
  have ez : z = (⟨A.toArray⟩ : Str) ++ ⟨(s.reverse ++ [b]).toArray⟩ ++ ⟨B.reverse.toArray⟩ := ext_tl (by
    rw [tl_append, tl_append, e1, e3]
    show _ = A ++ (s.reverse ++ [b]) ++ B.reverse
    simp only [List.append_assoc])
  rw [ez, strip_pad (fun c hc => hA c hc) (fun c hc => hB c (List.mem_reverse.mp hc)) hx] at e
  have := congrArg tl e
  have e4 : s.reverse ++ [b] = [] := this
  simp at e4
theorem words_back {ps : List Str} {ds : List TW} (h : ∀ d ∈ ds, okW d) (hp : Paired Pad ps ds) : wordsT (Txt.join (Str.ofString ",") ps) = ds.map some := by
  have key : ∀ {ps : List Str} {ds : List TW}, (∀ d ∈ ds, okW d) → Paired Pad ps ds → (∀ p ∈ ps, 44 ∉ tl p) ∧ ps.map (fun p => wordT (Txt.stripChars p (Str.ofString " "))) = ds.map some := fun {ps ds} h hp => by
    induction hp with
    | nil => exact ⟨(fun p h => nomatch h), rfl⟩
    | @cons p d ps ds hd t ih =>
      obtain ⟨A, B, e, hA, hB⟩ := hd
      obtain ⟨i1, i2⟩ := ih fun x hx => h x (List.mem_cons_of_mem _ hx)
      have hk := h d (List.mem_cons_self ..)
      refine ⟨fun q hq => ?_, ?_⟩
      · rcases List.mem_cons.mp hq with rfl | hq
        · intro z
          rw [e, tl_append, tl_append] at z
          rcases List.mem_append.mp z with z | z
          · rcases List.mem_append.mp z with z | z
            · have := hA _ z
              omega
            · exact (wtext_sig hk 44 z).1 rfl
          · have := hB _ z
            omega
        · exact i1 q hq
      · rw [List.map_cons, List.map_cons, i2, e, strip_pad hA hB (wtext_ends hk), word_back hk]
  obtain ⟨k1, k2⟩ := key h hp
  cases hp with
  | nil =>
    have e : Txt.join (Str.ofString ",") ([] : List Str) = Str.ofString "" := by
      apply ext_tl
      rw [join_eq, tl_join]
      decide
    rw [e]
    unfold wordsT
    rw [if_pos (by decide)]
    rfl
  | @cons p d ps ds hd t =>
    unfold wordsT
    rw [if_neg]
    · rw [split_join co_cons (by decide +kernel) (by simp) k1]
      exact k2
    · refine strip_ne ?_
      obtain ⟨A, B, e, hA, hB⟩ := hd
      obtain ⟨⟨a, r, e1, n1⟩, _⟩ := wtext_ends (h d (List.mem_cons_self ..))
      refine ⟨a, ?_, n1⟩
      rw [join_eq, tl_join, e]
      have hm : a ∈ tl (A ++ wtext d ++ B) := by
        rw [tl_append, tl_append, e1]
        simp
      cases ps with
      | nil => exact hm
      | cons q ps => exact List.mem_append_left _ hm
theorem join_sp : ∀ (w : Str) (ws : List Str), Txt.join (Str.ofString ", ") (w :: ws) = Txt.join (Str.ofString ",") (w :: ws.map (Str.ofString " " ++ ·)) := fun w ws => by
  have j : ∀ (w : Str) (ws : List Str), joinL (tl (Str.ofString ", ")) (tl w :: ws.map tl) = joinL (tl (Str.ofString ",")) (tl w :: (ws.map (Str.ofString " " ++ ·)).map tl) := fun w ws => by
    induction ws generalizing w with
    | nil => rfl
    | cons v r ih =>
      show tl w ++ (tl (Str.ofString ", ") ++ joinL (tl (Str.ofString ", ")) (tl v :: r.map tl)) = tl w ++ (tl (Str.ofString ",") ++ joinL (tl (Str.ofString ",")) (tl (Str.ofString " " ++ v) :: (r.map (Str.ofString " " ++ ·)).map tl))
      rw [ih v]
      have e : tl (Str.ofString ", ") = tl (Str.ofString ",") ++ tl (Str.ofString " ") := by decide
      rw [e, tl_append, List.append_assoc]
      congr 2
      cases r with
      | nil => rfl
      | cons x t =>
        show tl (Str.ofString " ") ++ (tl v ++ (_ ++ _)) = tl (Str.ofString " ") ++ tl v ++ (_ ++ _)
        rw [List.append_assoc]
  apply ext_tl
  rw [join_eq, join_eq, tl_join, tl_join]
  exact j w ws
theorem spell_back {ds : List TW} (h : ∀ d ∈ ds, okW d) : wordsT (Txt.join (Str.ofString ", ") (ds.map wtext)) = ds.map some := by
  cases ds with
  | nil => exact words_back (ps := []) h .nil
  | cons d ds =>
    rw [List.map_cons, join_sp]
    refine words_back h (.cons ⟨Str.ofString "", Str.ofString "", ext_tl (by rw [tl_append, tl_append]; show tl (wtext d) = [] ++ tl (wtext d) ++ []; simp), blank_nil, blank_nil⟩ ?_)
    clear h
    induction ds with
    | nil => exact .nil
    | cons x r ih =>
      refine .cons ⟨Str.ofString " ", Str.ofString "", ext_tl (by rw [tl_append, tl_append, tl_append]; show _ = tl (Str.ofString " ") ++ tl (wtext x) ++ []; simp), fun c hc => ?_, blank_nil⟩ ih
      rw [sp_cons] at hc
      simpa using hc
/-! ### rules and wishes, spelled and read -/
theorem ints_inWs {name : Str} (ns : List NT) {ts : List BT} (h : ∀ x ∈ ts, x.r.1 ≠ name) : intsT name (inWs ns ts) = ns.filterMap fun x => if decide (x.r.1 = name) && !decide (x.r.2.1 = x.r.2.2.1) then x.r.2.1 else none := by
  have h2 : ((ts.filter fun x => x.r.2.1).map fun x => tw x.r.1 none).filter (fun d => decide (d.r.1 = name)) = [] := by
    rw [List.filter_eq_nil_iff]
    intro d hd
    obtain ⟨x, hx, rfl⟩ := List.mem_map.mp hd
    exact fun z => h x (List.mem_filter.mp hx).1 (of_decide_eq_true z)
  unfold intsT numsT inWs
  rw [List.filter_append, h2, List.append_nil]
  induction ns with
  | nil => rfl
  | cons x r ih =>
    rw [List.filterMap_cons, List.filter_cons]
    by_cases p : x.r.2.1 = x.r.2.2.1
    · rw [decide_eq_true p, Bool.not_true, Bool.and_false, if_neg Bool.false_ne_true, if_neg Bool.false_ne_true]
      exact ih
    · rw [decide_eq_false p, Bool.not_false, Bool.and_true, if_pos rfl, List.map_cons, List.filter_cons, show (tw x.r.1 x.r.2.1).r.1 = x.r.1 from rfl]
      by_cases q : x.r.1 = name
      · rw [if_pos (decide_eq_true q), if_pos (decide_eq_true q), List.map_cons, List.filterMap_cons]
        rw [show id (tw x.r.1 x.r.2.1).r.2.1 = x.r.2.1 from rfl]
        cases e : x.r.2.1 with
        | none => exact ih
        | some n => exact congrArg (n :: ·) ih
      · rw [if_neg (by simpa using q), if_neg (by simpa using q)]
        exact ih
theorem told_inWs {name : Str} {ns : List NT} (ts : List BT) (h : ∀ x ∈ ns, x.r.1 ≠ name) : toldT name (inWs ns ts) = ts.any fun x => decide (x.r.1 = name) && x.r.2.1 := by
  unfold toldT inWs
  rw [Bool.eq_iff_iff, decide_eq_true_iff, List.any_eq_true, List.mem_append]
  constructor
  · rintro (hx | hx)
    · obtain ⟨x, hx, e⟩ := List.mem_map.mp hx
      exact absurd (congrArg (fun d : TW => d.r.1) e) (h x (List.mem_filter.mp hx).1)
    · obtain ⟨x, hx, e⟩ := List.mem_map.mp hx
      obtain ⟨h1, h2⟩ := List.mem_filter.mp hx
      refine ⟨x, h1, ?_⟩
      rw [h2, Bool.and_true, decide_eq_true_iff]
      exact congrArg (fun d : TW => d.r.1) e
  · rintro ⟨x, hx, e⟩
    rw [Bool.and_eq_true, decide_eq_true_iff] at e
    refine .inr (List.mem_map.mpr ⟨x, List.mem_filter.mpr ⟨hx, e.2⟩, ?_⟩)
    rw [e.1]
theorem lone (n : Int) : ([(if (!decide ((some n : Option Int) = some 0)) = true then some n else none)].filterMap id) = if n = 0 then [] else [n] := by
  by_cases h : n = 0
  · rw [if_pos h, h]
    rfl
  · rw [if_neg h, if_pos (by simpa using h)]
    rfl
theorem min_lone (n : Int) : (minI (if n = 0 then [] else [n])).getD 0 = n := by
  by_cases h : n = 0
  · rw [if_pos h, h]
    rfl
  · rw [if_neg h]
    rfl
theorem max_lone (n : Int) : (maxI (if n = 0 then [] else [n])).getD 0 = n := by
  by_cases h : n = 0
  · rw [if_pos h, h]
    rfl
  · rw [if_neg h]
    rfl
theorem ruleT_back (r : RuleR) : ruleT (inWs (rNum r) (rTru r)) = r := by
  have n1 : ∀ name ∈ rNs, ∀ x ∈ rTru r, x.r.1 ≠ name := fun name hn x hx => by
    have : x.r.1 ∈ rTs := by
      simp only [rTru, List.mem_cons, List.not_mem_nil, or_false] at hx
      rcases hx with rfl | rfl | rfl | rfl | rfl <;> simp [rTs]
    intro e
    rw [e] at this
    exact (by decide : ∀ x ∈ rNs, x ∉ rTs) name hn this
  have n2 : ∀ name ∈ rTs, ∀ x ∈ rNum r, x.r.1 ≠ name := fun name hn x hx => by
    have : x.r.1 ∈ rNs := by
      simp only [rNum, List.mem_cons, List.not_mem_nil, or_false] at hx
      rcases hx with rfl | rfl | rfl <;> simp [rNs]
    intro e
    rw [e] at this
    exact (by decide : ∀ x ∈ rNs, x ∉ rTs) name this hn
  have i1 : intsT "keep" (inWs (rNum r) (rTru r)) = if r.keep = 0 then [] else [r.keep] := by
    rw [ints_inWs _ (n1 "keep" (by decide)), ← lone]
    rfl
  have i2 : intsT "worn" (inWs (rNum r) (rTru r)) = if r.worn = 0 then [] else [r.worn] := by
    rw [ints_inWs _ (n1 "worn" (by decide)), ← lone]
    rfl
  have i3 : intsT "alone" (inWs (rNum r) (rTru r)) = if r.alone = 0 then [] else [r.alone] := by
    rw [ints_inWs _ (n1 "alone" (by decide)), ← lone]
    rfl
  have t : ∀ name ∈ rTs, toldT name (inWs (rNum r) (rTru r)) = (rTru r).any fun x => decide (x.r.1 = name) && x.r.2.1 := fun name hn => told_inWs _ (n2 name hn)
  unfold ruleT
  rw [i1, i2, i3, min_lone, min_lone, min_lone, t "anew" (by decide), t "own" (by decide), t "common" (by decide), t "never" (by decide), t "strict" (by decide)]
  obtain ⟨a, b, c, d, e, f, g, h⟩ := r
  cases d <;> cases e <;> cases f <;> cases g <;> cases h <;> rfl
theorem wishT_back (r : WishR) : wishT (inWs (wNum r) (wTru r)) = r := by
  have n1 : ∀ name ∈ wNs, ∀ x ∈ wTru r, x.r.1 ≠ name := fun name hn x hx => by
    have : x.r.1 ∈ wTs := by
      simp only [wTru, List.mem_cons, List.not_mem_nil, or_false] at hx
      rcases hx with rfl | rfl | rfl <;> simp [wTs]
    intro e
    rw [e] at this
    exact (by decide : ∀ x ∈ wNs, x ∉ wTs) name hn this
  have n2 : ∀ name ∈ wTs, ∀ x ∈ wNum r, x.r.1 ≠ name := fun name hn x hx => by
    have : x.r.1 ∈ wNs := by
      simp only [wNum, List.mem_cons, List.not_mem_nil, or_false] at hx
      rcases hx with rfl | rfl | rfl <;> simp [wNs]
    intro e
    rw [e] at this
    exact (by decide : ∀ x ∈ wNs, x ∉ wTs) name this hn
  have i1 : intsT "atmost" (inWs (wNum r) (wTru r)) = r.atmost.toList := by
    rw [ints_inWs _ (n1 "atmost" (by decide))]
    obtain ⟨a, b, c, d, e, f⟩ := r
    cases a <;> rfl
  have i2 : intsT "left" (inWs (wNum r) (wTru r)) = if r.left = 0 then [] else [r.left] := by
    rw [ints_inWs _ (n1 "left" (by decide)), ← lone]
    rfl
  have i3 : intsT "worn" (inWs (wNum r) (wTru r)) = if r.worn = 0 then [] else [r.worn] := by
    rw [ints_inWs _ (n1 "worn" (by decide)), ← lone]
    rfl
  have t : ∀ name ∈ wTs, toldT name (inWs (wNum r) (wTru r)) = (wTru r).any fun x => decide (x.r.1 = name) && x.r.2.1 := fun name hn => told_inWs _ (n2 name hn)
  unfold wishT
  rw [i1, i2, i3, max_lone, min_lone, t "anew" (by decide), t "kept" (by decide), t "firm" (by decide)]
  obtain ⟨a, b, c, d, e, f⟩ := r
  cases a <;> cases d <;> cases e <;> cases f <;> rfl
def ok60 (n : Int) : Prop := 0 ≤ n ∧ n < 10 ^ 60
def okRule60 (r : RuleR) : Prop := ok60 r.keep ∧ ok60 r.worn ∧ ok60 r.alone
def okWish60 (r : WishR) : Prop := (∀ n, r.atmost = some n → ok60 n) ∧ ok60 r.left ∧ ok60 r.worn
theorem ok60.i {n : Int} (h : ok60 n) : okI n := ⟨h.1, Int.lt_trans h.2 (by decide)⟩
theorem okRule60.i {r : RuleR} (h : okRule60 r) : okRule r := ⟨h.1.i, h.2.1.i, h.2.2.i⟩
theorem okWish60.i {r : WishR} (h : okWish60 r) : okWish r := ⟨fun n e => (h.1 n e).i, h.2.1.i, h.2.2.i⟩
theorem suit_n {ns ts : List Str} {s : Str} (h : s ∈ ns) (n : Int) : suitT ns ts (tw s (some n)) = true := by
  unfold suitT
  rw [if_pos (decide_eq_true (show (tw s (some n)).r.1 ∈ ns from h))]
  rfl
theorem suit_t {ns ts : List Str} (d : ∀ x ∈ ns, x ∉ ts) {s : Str} (h : s ∈ ts) : suitT ns ts (tw s none) = true := by
  unfold suitT
  rw [if_neg (show ¬ decide ((tw s none).r.1 ∈ ns) = true from fun z => d s (of_decide_eq_true z) h)]
  show (!decide (s ∈ ts) || true) = true
  rw [Bool.or_true]
theorem r_disj : ∀ x ∈ rNs, x ∉ rTs := by decide
theorem w_disj : ∀ x ∈ wNs, x ∉ wTs := by decide
theorem r_names : ∀ x ∈ rNs ++ rTs, nameB x = true := by decide +kernel
theorem w_names : ∀ x ∈ wNs ++ wTs, nameB x = true := by decide +kernel
theorem rWs_ok {r : RuleR} (h : okRule60 r) : ∀ d ∈ inWs (rNum r) (rTru r), okW d ∧ suitT rNs rTs d = true := fun d hd => by
  unfold inWs at hd
  rcases List.mem_append.mp hd with hd | hd
  · obtain ⟨x, hx, rfl⟩ := List.mem_map.mp hd
    have hx := (List.mem_filter.mp hx).1
    have g : ∃ s n, x.r.1 = s ∧ x.r.2.1 = some n ∧ s ∈ rNs ∧ ok60 n := by
      simp only [rNum, List.mem_cons, List.not_mem_nil, or_false] at hx
      rcases hx with rfl | rfl | rfl
      · exact ⟨_, _, rfl, rfl, by simp [rNs, wNs], h.1⟩
      · exact ⟨_, _, rfl, rfl, by simp [rNs, wNs], h.2.1⟩
      · exact ⟨_, _, rfl, rfl, by simp [rNs, wNs], h.2.2⟩
    obtain ⟨s, n, e1, e2, h1, h2⟩ := g
    rw [e1, e2]
    exact ⟨⟨r_names s (List.mem_append_left _ h1), fun m e => by cases e; exact h2⟩, suit_n h1 n⟩
  · obtain ⟨x, hx, rfl⟩ := List.mem_map.mp hd
    have hx := (List.mem_filter.mp hx).1
    have g : x.r.1 ∈ rTs := by
      simp only [rTru, List.mem_cons, List.not_mem_nil, or_false] at hx
      rcases hx with rfl | rfl | rfl | rfl | rfl <;> simp [rTs]
    exact ⟨⟨r_names _ (List.mem_append_right _ g), fun n e => nomatch e⟩, suit_t r_disj g⟩
theorem wWs_ok {r : WishR} (h : okWish60 r) : ∀ d ∈ inWs (wNum r) (wTru r), okW d ∧ suitT wNs wTs d = true := fun d hd => by
  unfold inWs at hd
  rcases List.mem_append.mp hd with hd | hd
  · obtain ⟨x, hx, rfl⟩ := List.mem_map.mp hd
    obtain ⟨hx, hp⟩ := List.mem_filter.mp hx
    have g : ∃ s n, x.r.1 = s ∧ x.r.2.1 = some n ∧ s ∈ wNs ∧ ok60 n := by
      simp only [wNum, List.mem_cons, List.not_mem_nil, or_false] at hx
      rcases hx with rfl | rfl | rfl
      · obtain ⟨n, hn⟩ := Option.ne_none_iff_exists'.mp (show r.atmost ≠ none by simpa using hp)
        exact ⟨_, n, rfl, hn, by simp [wNs], h.1 n hn⟩
      · exact ⟨_, _, rfl, rfl, by simp [rNs, wNs], h.2.1⟩
      · exact ⟨_, _, rfl, rfl, by simp [rNs, wNs], h.2.2⟩
    obtain ⟨s, n, e1, e2, h1, h2⟩ := g
    rw [e1, e2]
    exact ⟨⟨w_names s (List.mem_append_left _ h1), fun m e => by cases e; exact h2⟩, suit_n h1 n⟩
  · obtain ⟨x, hx, rfl⟩ := List.mem_map.mp hd
    have hx := (List.mem_filter.mp hx).1
    have g : x.r.1 ∈ wTs := by
      simp only [wTru, List.mem_cons, List.not_mem_nil, or_false] at hx
      rcases hx with rfl | rfl | rfl <;> simp [wTs]
    exact ⟨⟨w_names _ (List.mem_append_right _ g), fun n e => nomatch e⟩, suit_t w_disj g⟩
theorem right_none {ns ts : List Str} {ds : List TW} (h : ∀ d ∈ ds, suitT ns ts d = true) : wrongT ns ts (ds.map some) = none := by
  unfold wrongT
  rw [List.findIdx?_eq_none_iff]
  intro x hx
  obtain ⟨d, hd, rfl⟩ := List.mem_map.mp hx
  show (!suitT ns ts d) = false
  rw [h d hd]
  rfl
theorem some_inj : ∀ {ds es : List TW}, ds.map some = es.map some → ds = es
  | [], [], _ => rfl
  | [], _ :: _, h => nomatch h
  | _ :: _, [], h => nomatch h
  | d :: ds, e :: es, h => by
    rw [List.map_cons, List.map_cons] at h
    injection h with h1 h2
    rw [Option.some.inj h1, some_inj h2]
theorem ws_len {ds : List TW} (h : ∀ d ∈ ds, okW d) (l : ds.length ≤ 60) : (Txt.join (Str.ofString ", ") (ds.map wtext)).length ≤ 5000 := by
  refine join_le (Lw.join_b (n := 60) (m := 70) (by rw [List.length_map]; exact l) (fun z hz => ?_) (by decide))
  obtain ⟨d, hd, rfl⟩ := List.mem_map.mp hz
  exact wtext_len (h d hd)
theorem rWs_len (r : RuleR) : (inWs (rNum r) (rTru r)).length ≤ 60 := by
  unfold inWs
  rw [List.length_append, List.length_map, List.length_map]
  have h1 := List.length_filter_le (fun x : NT => !decide (x.r.2.1 = x.r.2.2.1)) (rNum r)
  have h2 := List.length_filter_le (fun x : BT => x.r.2.1) (rTru r)
  have e1 : (rNum r).length = 3 := rfl
  have e2 : (rTru r).length = 5 := rfl
  omega
theorem wWs_len (r : WishR) : (inWs (wNum r) (wTru r)).length ≤ 60 := by
  unfold inWs
  rw [List.length_append, List.length_map, List.length_map]
  have h1 := List.length_filter_le (fun x : NT => !decide (x.r.2.1 = x.r.2.2.1)) (wNum r)
  have h2 := List.length_filter_le (fun x : BT => x.r.2.1) (wTru r)
  have e1 : (wNum r).length = 3 := rfl
  have e2 : (wTru r).length = 3 := rfl
  omega
theorem spellR_len {r : RuleR} (h : okRule60 r) : (spellR r).length ≤ 5000 := ws_len (fun d hd => (rWs_ok h d hd).1) (rWs_len r)
theorem spellW_len {r : WishR} (h : okWish60 r) : (spellW r).length ≤ 5000 := ws_len (fun d hd => (wWs_ok h d hd).1) (wWs_len r)
theorem rdRule_spell {r : RuleR} (h : okRule60 r) {P : RuleR → Prop} {X : Ex → Prop} (p : P r) : rdRule (spellR r) P X := by
  have e : wordsT (spellR r) = (inWs (rNum r) (rTru r)).map some := spell_back fun d hd => (rWs_ok h d hd).1
  refine ⟨Nat.le_trans (spellR_len h) (by decide), fun ds e2 _ => ?_, fun i e2 => ?_⟩
  · rw [e] at e2
    rw [← some_inj e2, ruleT_back]
    exact p
  · rw [e, right_none fun d hd => (rWs_ok h d hd).2] at e2
    cases e2
theorem rdWish_spell {r : WishR} (h : okWish60 r) {P : WishR → Prop} {X : Ex → Prop} (p : P r) : rdWish (spellW r) P X := by
  have e : wordsT (spellW r) = (inWs (wNum r) (wTru r)).map some := spell_back fun d hd => (wWs_ok h d hd).1
  refine ⟨Nat.le_trans (spellW_len h) (by decide), fun ds e2 _ => ?_, fun i e2 => ?_⟩
  · rw [e] at e2
    rw [← some_inj e2, wishT_back]
    exact p
  · rw [e, right_none fun d hd => (wWs_ok h d hd).2] at e2
    cases e2
theorem rng_split {N : Nat} {pre post : List Int} {x : Int} (h : rngL 0 N = pre ++ x :: post) : x = (pre.length : Int) ∧ pre.length < N := by
  have e : (rngL 0 N)[pre.length]? = some x := by
    rw [h, List.getElem?_append_right (Nat.le_refl _), Nat.sub_self]
    rfl
  have hl : pre.length < N := by
    have := (List.getElem?_eq_some_iff.mp e).1
    rwa [rngL_len] at this
  refine ⟨?_, hl⟩
  unfold rngL at e
  rw [List.getElem?_map, List.getElem?_range hl] at e
  have e2 : (0 : Int) + (pre.length : Int) = x := Option.some.inj e
  omega
theorem take_flat {α : Type} {xss : List (List α)} {i : Nat} {ys : List α} (h : xss[i]? = some ys) : (xss.take (i + 1)).flatten = (xss.take i).flatten ++ ys := by
  rw [List.take_add_one, h, List.flatten_append]
  simp
theorem encO_eqv (a b : Option Int) : PyData.eqv (encO PyData.int a) (encO PyData.int b) = decide (a = b) := by
  cases a <;> cases b <;> simp [encO, PyData.eqv]
  rw [Bool.eq_iff_iff]
  simp
theorem encO_dep (a : Option Int) : (encO PyData.int a).depth = 0 := by cases a <;> rfl
theorem encO_lay (a : Option Int) : (encO PyData.int a).canLay0 = true := by cases a <;> rfl
theorem encO_nb (a : Option Int) (b : Bool) : isBl (encO PyData.int a) b = false := by cases a <;> rfl
theorem inWs_one {ns : List NT} {ts : List BT} (hn : ∀ x ∈ ns, okN x) (ht : ∀ x ∈ ts, x.r.1.length ≤ 20) : ∀ z ∈ (inWs ns ts).map wtext, z.length ≤ 130 := fun z hz => by
  obtain ⟨d, hd, rfl⟩ := List.mem_map.mp hz
  unfold inWs at hd
  rcases List.mem_append.mp hd with hd | hd
  · obtain ⟨x, hx, rfl⟩ := List.mem_map.mp hd
    obtain ⟨hx1, hx2⟩ := List.mem_filter.mp hx
    obtain ⟨ln, hnum⟩ := hn x hx1
    obtain ⟨n, en, n0, n1⟩ := hnum (by simpa using hx2)
    have o2 := len_num (k := 100) (by decide) n0 n1
    have ls : (Str.ofString " ").length = 1 := by decide
    rw [show wtext (tw x.r.1 x.r.2.1) = x.r.1 ++ Str.ofString " " ++ nT n by rw [en]; rfl, My.len_app, My.len_app]
    have : (nT n).length ≤ 100 := o2
    omega
  · obtain ⟨x, hx, rfl⟩ := List.mem_map.mp hd
    have := ht x (List.mem_filter.mp hx).1
    show x.r.1.length ≤ 130
    omega
theorem spell_sum {ns : List NT} {ts : List BT} (hn : ∀ x ∈ ns, okN x) (ht : ∀ x ∈ ts, x.r.1.length ≤ 20) (l1 : ns.length ≤ 20) (l2 : ts.length ≤ 20) : (((inWs ns ts).map wtext).map (·.length)).sum + ((inWs ns ts).map wtext).length * (Str.ofString ", ").length ≤ 16000000 := by
  refine Lw.join_b (n := 40) (m := 130) ?_ (inWs_one hn ht) (by decide)
  rw [List.length_map]
  unfold inWs
  rw [List.length_append, List.length_map, List.length_map]
  have la := List.length_filter_le (fun x : NT => !decide (x.r.2.1 = x.r.2.2.1)) ns
  have lb := List.length_filter_le (fun x : BT => x.r.2.1) ts
  omega
end Mo
namespace Lx
open PySem PySem.Spec PyProof.Rows L2 TL
section
variable {Z : Px} {j : Bool} {Γ : List Cell} {α β γ δ κ : Type} {K : PySem.W.Frag}
variable {S L S' : Type} {R : Rf γ} {Γn : S → List Cell} {Γl : L → List Cell}
/-- d.get(k, x) -/
theorem se_dget2 [DecidableEq κ] {A : Rp κ} {B : Rp β} {kf : κ → Key} [kr : KeyR A kf] {td tk tx : TE} {md : D (List (κ × β))} {mk : D κ} {mx : D β} (hd : SE Z true Γ td (rK kf B) md) (hk : SE Z true Γ tk A mk) (hx : SE Z false Γ tx B mx) : SE Z j Γ (tDGet2 td tk tx) B (D.bind md fun d => D.bind mk fun k => D.bind mx fun c => D.pure ((valD d k).getD c)) := fun φ σ w H Q P X hn hA hm kk x =>
  hd φ σ w H _ _ X hn hA hm (fun d v I1 H1 pd s1 rd => by
    obtain ⟨a, kvs, e1, e2, pr⟩ := rd
    refine ⟨a, e1, .inl ⟨kvs, .inl (tp_sub (j := true) s1.sub _ _ e2)⟩, hk φ σ (w.to I1) H1 _ _ X hn (hA.step s1) pd (fun k y I2 H2 pk s2 rk => hx φ σ (w.to I2) H2 _ _ X hn (hA.step (s1.trans s2)) pk (fun c z I3 H3 pc s3 rc => ?_) (xg (s1.trans s2) x)) (xg s1 x)⟩
    have g := (s1.trans s2).trans s3
    have e3 := tp_sub (j := true) s3.sub _ _ (tp_go (w := w.to I2) (j := true) s3 _ _ (tp_go (w := w.to I1) (j := true) s2 _ _ e2))
    rw [kr.is _ _ _ _ rk]
    refine ⟨_, DGet.k e3, ?_⟩
    rcases val_prd kr.inj k pr with ⟨u, b, q1, q2, q3⟩ | ⟨q1, q2⟩
    · rw [q1]
      have pc' : P ((valD d k).getD c) := pc
      rw [q2] at pc'
      exact kk b u I3 H3 pc' g (B.up (i_tp (w := w.to I3) j (hA.step g).go) (B.mn (s2.i.trans s3.i) q3))
    · rw [q1]
      have pc' : P ((valD d k).getD c) := pc
      rw [q2] at pc'
      exact kk c z I3 H3 pc' g (B.up (i_tp (w := w.to I3) j (hA.step g).go) rc)) x
/-- k in d -/
theorem se_din [DecidableEq κ] {A : Rp κ} {B : Rp β} {kf : κ → Key} [kr : KeyR A kf] {td tk : TE} {md : D (List (κ × β))} {mk : D κ} (hk : SE Z true Γ tk A mk) (hd : SE Z true Γ td (rK kf B) md) : SE Z j Γ (tDIn tk td) rB (D.bind mk fun k => D.bind md fun d => D.pure (valD d k).isSome) := fun φ σ w H Q P X hn hA hm kk x =>
  hk φ σ w H _ _ X hn hA hm (fun k y I1 H1 pk s1 rk => hd φ σ (w.to I1) H1 _ _ X hn (hA.step s1) pk (fun d v I2 H2 pd s2 rd => by
    obtain ⟨a, kvs, e1, e2, pr⟩ := rd
    have e3 := tp_sub (j := true) (w := w.to I2) s2.sub _ _ e2
    rw [kr.is _ _ _ _ rk]
    refine ⟨a, _, e1, DGet.k e3, ?_⟩
    have pd' : P (valD d k).isSome := pd
    rcases val_prd kr.inj k pr with ⟨u, b, q1, q2, q3⟩ | ⟨q1, q2⟩
    · rw [q1]
      rw [q2] at pd'
      exact kk true _ I2 H2 pd' (s1.trans s2) rfl
    · rw [q1]
      rw [q2] at pd'
      exact kk false _ I2 H2 pd' (s1.trans s2) rfl) (xg s1 x)) x
theorem se_dnotin [DecidableEq κ] {A : Rp κ} {B : Rp β} {kf : κ → Key} [kr : KeyR A kf] {td tk : TE} {md : D (List (κ × β))} {mk : D κ} (hk : SE Z true Γ tk A mk) (hd : SE Z true Γ td (rK kf B) md) : SE Z j Γ (tDNotIn tk td) rB (D.bind mk fun k => D.bind md fun d => D.pure (!(valD d k).isSome)) := fun φ σ w H Q P X hn hA hm kk x =>
  hk φ σ w H _ _ X hn hA hm (fun k y I1 H1 pk s1 rk => hd φ σ (w.to I1) H1 _ _ X hn (hA.step s1) pk (fun d v I2 H2 pd s2 rd => by
    obtain ⟨a, kvs, e1, e2, pr⟩ := rd
    have e3 := tp_sub (j := true) (w := w.to I2) s2.sub _ _ e2
    rw [kr.is _ _ _ _ rk]
    refine ⟨a, _, e1, DGet.k e3, ?_⟩
    have pd' : P (!(valD d k).isSome) := pd
    rcases val_prd kr.inj k pr with ⟨u, b, q1, q2, q3⟩ | ⟨q1, q2⟩
    · rw [q1]
      rw [q2] at pd'
      exact kk false _ I2 H2 pd' (s1.trans s2) rfl
    · rw [q1]
      rw [q2] at pd'
      exact kk true _ I2 H2 pd' (s1.trans s2) rfl) (xg s1 x)) x
/-! ### drawing out of a well, up to large numbers -/
abbrev limW : Int := 10 ^ 101
def spDrw : Sp := fun vs H Q _ => ∃ (W : Addr) (m : Int), vs = [.ref W, .int m] ∧ 0 < m ∧ m < limW ∧ My.IsW H W ∧ ∀ r H', 0 ≤ r → r < m → My.Wx W H H' → Q (.int r) H'
theorem dr_of_drw : ∀ vs H Q E, spDr 3 limW vs H Q E → spDrw vs H Q E := fun vs H Q E ⟨W, ns, m, e, h1, h2, hw, hl, q⟩ => by
  obtain ⟨a, b, c, rfl⟩ : ∃ a b c, ns = [a, b, c] := match ns, hl with
    | [a, b, c], _ => ⟨a, b, c, rfl⟩
  exact ⟨W, m, e, h1, h2, ⟨a, b, c, hw⟩, fun r H' r0 r1 x => q r H' r0 r1 (fun b o n h => x.keep b o n h) (by
    obtain ⟨a', b', c', hw'⟩ := x.well
    exact ⟨[a', b', c'], hw', rfl⟩)⟩
theorem cdivW {i m : Int} (h0 : 0 < m) (h1 : m < limW) : CDivW i m := ⟨h0, Nat.lt_trans (log_lt (Int.le_of_lt h0) h1) (by decide)⟩
end
end Lx
namespace Mo
open PySem PySem.Spec PyProof.Rows L2 TL
open Lx Lw Ls
open My (Asc minI maxI)
/-! ### what a rule and a wish say of a copy -/
def oldB (q : WishR) (age : Int) : Bool := match q.atmost with
  | none => false
  | some a => decide (a < age)
def letsT (r : RuleR) (q : WishR) (age : Int) : Str :=
  if (r.anew || q.anew) = true then Str.ofString "anew" else if oldB q age = true then Str.ofString "old" else if age + q.left < r.keep then Str.ofString "fresh" else if 0 < q.left then Str.ofString "left" else if (r.strict || q.firm) = true then Str.ofString "firm" else if age < r.keep + q.worn then Str.ofString "let" else if age < r.keep + r.worn then Str.ofString "worn" else Str.ofString "over"
def servesT (r : RuleR) (q : WishR) (age : Int) (alone : Bool) : Bool := decide (letsT r q age ∈ [Str.ofString "fresh", Str.ofString "let", Str.ofString "worn"]) || (alone && (decide (letsT r q age = Str.ofString "over") && decide (age < r.keep + r.alone)))
theorem cutL_take {α : Type} (xs : List α) (n : Nat) : cutL xs none (some (n : Int)) = xs.take n := by
  unfold cutL
  rw [show HT.sIx xs.length 0 none = 0 from rfl, HT.sIx_nat, List.drop_zero, Nat.sub_zero]
  rcases Nat.le_total n xs.length with h | h
  · rw [Nat.min_eq_left h]
  · rw [Nat.min_eq_right h, List.take_length, List.take_of_length_le h]
theorem mem_rng {x : Int} {n : Nat} (h : x ∈ rngL 0 n) : 0 ≤ x ∧ x < n := by
  unfold rngL at h
  obtain ⟨k, hk, rfl⟩ := List.mem_map.mp h
  have := List.mem_range.mp hk
  omega
end Mo
namespace Lx
open PySem PySem.Spec PyProof.Rows L2 TL
section
variable {Z : Px} {j : Bool} {Γ : List Cell} {α β γ δ κ : Type} {K : PySem.W.Frag}
variable {S L S' : Type} {R : Rf γ} {Γn : S → List Cell} {Γl : L → List Cell}
/-! ### a dict that is walked -/
def oKz (kf : κ → Key) (B : Rp β) : Ow (List (κ × β)) := ⟨fun I H l v d => ∃ L o kvs, v = .ref L ∧ l L ≠ none ∧ H L = some (.frz o (.dK kvs)) ∧ Paired (PKV kf B (fun _ => none)) kvs d, fun s k ⟨L, o, kvs, e, n, h, p⟩ => ⟨L, o, kvs, e, n, by rw [k L n]; exact h, p⟩⟩
theorem pkv_flat {kf : κ → Key} {B : Rp β} (f : B.flat) {I J : Hp} {kvs : List (Key × V)} {d : List (κ × β)} (h : Paired (PKV kf B I) kvs d) : Paired (PKV kf B J) kvs d := Paired.mono (fun _ _ h => ⟨h.1, f _ _ _ _ _ _ h.2⟩) h
/-- what is locked while it is walked: a dict of flat things -/
theorem se_lockV {kf : κ → Key} {B : Rp β} {A : Rp α} {i : Nat} {d : List (κ × β)} {t : TE} {m : D α} (f : B.flat) (hl : look Γ i = some ⟨.p (rK kf B), i, d⟩) (h : SE ⟨Z.K, Z.mg, fun _ _ _ _ => False, Z.n⟩ false [⟨.o (oKz kf B), i, d⟩] t A m) : SE Z j Γ (tLockE t) A (D.nox m) := fun φ σ w H Q P X hn hA hm kk x => by
  obtain ⟨v, e, a, kvs, rfl, e2, pr⟩ := hA.hold i _ hl
  have hH : H a = some (.dK kvs) := hA.go.sub _ _ e2
  refine ⟨a, .dK kvs, hH, by trivial, fun od => ?_⟩
  let H' : Hp := upd H a (.frz od (.dK kvs))
  have up : ∀ {b}, b ≠ a → H' b = H b := fun n => upd_ne n
  have dom : ∀ {b}, H b ≠ none ↔ H' b ≠ none := fun {b} => by
    by_cases z : b = a
    · subst z
      exact ⟨fun _ => nn upd_same, fun _ => nn hH⟩
    · rw [up z]
  let w' : Wd := ⟨fun _ => none, fun b => if b = a then some i else none, fun _ => none⟩
  have ow : ∀ b k, w'.own b = some k → b = a := fun b k h => by
    by_cases z : b = a
    · exact z
    · rw [show w'.own b = none from if_neg z] at h
      cases h
  let H0 : Hp := fun b => if b = a then none else H' b
  have hA' : At ⟨φ.n, w', H0⟩ [⟨.o (oKz kf B), i, d⟩] σ w' H' := by
    refine ⟨⟨Same.refl _, fun _ _ => rfl, fun b hb => ?_, fun _ _ => rfl, fun b o _ hb => ?_, (fun b o hb => nomatch hb), fun b k hb => ⟨rfl, ?_, rfl⟩, (fun _ _ h => nomatch h), (fun _ _ _ h _ => nomatch h), fun b hb => ?_⟩, hA.len, hold_of (holdC1 ⟨.ref a, e, lab1 a, fun b hb => ?_, a, od, kvs, rfl, lab1_at a, upd_same, pkv_flat f pr⟩)⟩
    · by_cases z : b = a
      · exact absurd (if_pos z) hb
      · exact if_neg z
    · have hb' : H0 b = some o := hb
      by_cases z : b = a
      · rw [show H0 b = none from if_pos z] at hb'
        cases hb'
      · rw [show H0 b = H' b from if_neg z] at hb'
        exact hb'
    · rw [ow b k hb]
      exact nn upd_same
    · have hb' : H0 b ≠ none := hb
      by_cases z : b = a
      · exact absurd (if_pos z) hb'
      · rw [show H0 b = H' b from if_neg z] at hb'
        exact hb'
    · rw [lab1_eq hb]
      exact ⟨if_pos rfl, nn upd_same⟩
  refine h ⟨φ.n, w', H0⟩ σ w' H' _ P (fun _ => False) hn hA' hm (fun c v I1 H1 pc g r => ?_) (fun _ _ _ _ _ hx _ _ => hx)
  have kept : ∀ b o, H' b = some o → H1 b = some o := fun b o h => g.kept b o rfl h
  refine ⟨kept a _ upd_same, ?_⟩
  let I2 : Hp := fun b => if H b = none then I1 b else w.I b
  have i2n : ∀ {b}, H b = none → I2 b = I1 b := fun h => if_pos h
  have i2o : ∀ {b}, H b ≠ none → I2 b = w.I b := fun h => if_neg h
  have s12 : Same I1 I2 := fun b o q => by
    by_cases z : H' b = none
    · have : H b = none := by
        cases y : H b with
        | none => rfl
        | some u => exact absurd z (dom.mp (nn y))
      rw [i2n this]
      exact q
    · have := g.new b z
      rw [this] at q
      cases q
  have gg : Go w H I2 (upd H1 a (.dK kvs)) := by
    refine ⟨fun b o q => ?_, fun b o q => ?_, fun b hb => i2o hb, fun b o n q => ?_, fun b k ns q1 q2 => ⟨ns, ?_, rfl⟩, fun b hb => ?_⟩
    · rw [i2o (nn (hA.go.sub _ _ q))]
      exact q
    · by_cases z : b = a
      · subst z
        rw [i2o (nn hH)] at q
        rw [upd_same, ← hH]
        exact hA.go.sub _ _ q
      · rw [upd_ne z]
        by_cases y : H b = none
        · rw [i2n y] at q
          exact g.sub _ _ q
        · rw [i2o y] at q
          exact kept b o (by rw [up z]; exact hA.go.sub _ _ q)
    · by_cases z : b = a
      · subst z
        rw [upd_same, ← hH]
        exact q
      · rw [upd_ne z]
        exact kept b o (by rw [up z]; exact q)
    · by_cases z : b = a
      · subst z
        rw [hH] at q2
        cases q2
      · rw [upd_ne z]
        exact kept b _ (by rw [up z]; exact q2)
    · by_cases z : b = a
      · subst z
        exact nn upd_same
      · rw [upd_ne z]
        obtain ⟨o, q⟩ := sm hb
        exact nn (kept b o (by rw [up z]; exact q))
  exact kk c v I2 _ pc gg (A.up (i_tp (w := w.to I2) j (hA.step gg).go) (A.mn s12 r))
end
end Lx
namespace Lx
open PySem PySem.Spec PyProof.Rows L2 TL
section
variable {Z : Px} {j : Bool} {Γ : List Cell} {α β γ δ κ : Type} {K : PySem.W.Frag}
theorem co_some_tv {R : Rp α} : ∀ (J I : Hp) v a, (rT K R).top J I v a → (rO (rT K R)).top J I v (some a) := fun J I v a h => And.intro (fun e => by obtain ⟨p, vs, q, _⟩ := h; rw [q] at e; cases e) h
section
variable {α3 α4 α5 α6 ζ : Type} {A0 : Rp α} {A1 : Rp β} {A2 : Rp γ} {A3 : Rp α3} {A4 : Rp α4} {A5 : Rp α5} {A6 : Rp α6} {S : Rps ζ}
theorem se_tu3 {ta : TE} {ma : D (Tu (α × β × γ × α3 × ζ))} (ha : SE Z true Γ ta (rTu Z.K (rsC A0 (rsC A1 (rsC A2 (rsC A3 S))))) ma) : SE Z j Γ (tOp (rIxT Z.K) ta (tC (.int 3))) A3 (D.bind ma fun t => D.pure t.r.2.2.2.1) := se_tix (n := 3) (ro_t (S := rsC A0 (rsC A1 (rsC A2 (rsC A3 S)))) (n := 3) fun J I vs b ⟨v, r, e, _, v1, r1, e1, _, v2, r2, e2, _, v3, r3, e3, h, _⟩ => ⟨v3, by rw [e, e1, e2, e3]; rfl, h⟩) ha
theorem se_tu4 {ta : TE} {ma : D (Tu (α × β × γ × α3 × α4 × ζ))} (ha : SE Z true Γ ta (rTu Z.K (rsC A0 (rsC A1 (rsC A2 (rsC A3 (rsC A4 S)))))) ma) : SE Z j Γ (tOp (rIxT Z.K) ta (tC (.int 4))) A4 (D.bind ma fun t => D.pure t.r.2.2.2.2.1) := se_tix (n := 4) (ro_t (S := rsC A0 (rsC A1 (rsC A2 (rsC A3 (rsC A4 S))))) (n := 4) fun J I vs b ⟨v, r, e, _, v1, r1, e1, _, v2, r2, e2, _, v3, r3, e3, _, v4, r4, e4, h, _⟩ => ⟨v4, by rw [e, e1, e2, e3, e4]; rfl, h⟩) ha
theorem se_tu5 {ta : TE} {ma : D (Tu (α × β × γ × α3 × α4 × α5 × ζ))} (ha : SE Z true Γ ta (rTu Z.K (rsC A0 (rsC A1 (rsC A2 (rsC A3 (rsC A4 (rsC A5 S))))))) ma) : SE Z j Γ (tOp (rIxT Z.K) ta (tC (.int 5))) A5 (D.bind ma fun t => D.pure t.r.2.2.2.2.2.1) := se_tix (n := 5) (ro_t (S := rsC A0 (rsC A1 (rsC A2 (rsC A3 (rsC A4 (rsC A5 S)))))) (n := 5) fun J I vs b ⟨v, r, e, _, v1, r1, e1, _, v2, r2, e2, _, v3, r3, e3, _, v4, r4, e4, _, v5, r5, e5, h, _⟩ => ⟨v5, by rw [e, e1, e2, e3, e4, e5]; rfl, h⟩) ha
theorem se_tu6 {ta : TE} {ma : D (Tu (α × β × γ × α3 × α4 × α5 × α6 × ζ))} (ha : SE Z true Γ ta (rTu Z.K (rsC A0 (rsC A1 (rsC A2 (rsC A3 (rsC A4 (rsC A5 (rsC A6 S)))))))) ma) : SE Z j Γ (tOp (rIxT Z.K) ta (tC (.int 6))) A6 (D.bind ma fun t => D.pure t.r.2.2.2.2.2.2.1) := se_tix (n := 6) (ro_t (S := rsC A0 (rsC A1 (rsC A2 (rsC A3 (rsC A4 (rsC A5 (rsC A6 S))))))) (n := 6) fun J I vs b ⟨v, r, e, _, v1, r1, e1, _, v2, r2, e2, _, v3, r3, e3, _, v4, r4, e4, _, v5, r5, e5, _, v6, r6, e6, h, _⟩ => ⟨v6, by rw [e, e1, e2, e3, e4, e5, e6]; rfl, h⟩) ha
theorem co_tv0 {R : Rp α} : ∀ (J I : Hp) v (a : Tu Unit), (rTu K rs0).top J I v a → (rT K R).top J I v (⟨[]⟩ : Tv α) := fun J I v a h => by
  obtain ⟨p, vs, e, q, r⟩ := h
  cases (show vs = [] from r)
  exact ⟨p, [], e, q, Nat.zero_le _, .nil⟩
theorem ro_startswith : ROM (fun x xs H Q => ∃ a b, x = .str a ∧ xs = [.str b] ∧ Q (.bl (Txt.startswith a b)) H) rS (rsC rS rs0) rB (fun a b => D.pure (Txt.startswith a b.1)) := fun J I H v us a b Q P X sj s ha ⟨v2, r, e, h1, h2⟩ hk q => by
  cases (show r = [] from h2)
  cases h1.1
  exact ⟨a, b.1, ha.1, e, q _ _ I H hk (Gw.refl (sj.trans s)) rfl⟩
theorem ro_mulW : RO2 (L2.rI CMulW fun i j => .int (i * j)) rI rI rI (fun i j => D.need (CMulW i j) (D.pure (i * j))) := ro_I fun _ _ _ => rfl
/-- tuples put together -/
theorem ro_catTu {S : Rps β} {T : Rps γ} {U : Rps δ} {f : β → γ → δ} {n m : Nat} (l : ∀ J I vs b, S.top J I vs b → vs.length = n + 1) (l2 : ∀ J I vs b, T.top J I vs b → vs.length = m + 1) (k : n + 1 + (m + 1) ≤ sizeLine) (h : ∀ J I vs ws b c, S.top J I vs b → T.top J I ws c → U.top J I (vs ++ ws) (f b c)) : RO2 (rCatT K) (rTu K S) (rTu K T) (rTu K U) (fun x y => D.pure ⟨f x.r y.r⟩) := fun J I H v u a b Q P X sj s ha hb hk q => by
  obtain ⟨p, vs, rfl, e, r⟩ := ha
  obtain ⟨p2, vs2, rfl, e2, r2⟩ := hb
  have ne : vs ≠ [] := fun z => by have := l _ _ _ _ r; rw [z] at this; cases this
  have ne2 : vs2 ≠ [] := fun z => by have := l2 _ _ _ _ r2; rw [z] at this; cases this
  refine ⟨p, p2, vs, vs2, rfl, rfl, Same.seqT s e, Same.seqT s e2, ne, by rw [l _ _ _ _ r, l2 _ _ _ _ r2]; exact k, fun z => absurd z ne2, fun _ n hn => ?_⟩
  have g := Gw.new1 (sj.trans s) hn (.tup (vs ++ vs2))
  exact q _ _ _ _ hk g ⟨n, _, rfl, SqT.of upd_same, h _ _ _ _ _ _ (S.mono g.i g.i r) (T.mono g.i g.i r2)⟩
theorem ro_catT42 : RO2 (rCatT K) (rTu K (rsC A0 (rsC A1 (rsC A2 (rsC A3 rs0))))) (rTu K (rsC A4 (rsC A5 rs0))) (rTu K (rsC A0 (rsC A1 (rsC A2 (rsC A3 (rsC A4 (rsC A5 rs0))))))) (fun x y => D.pure ⟨(x.r.1, x.r.2.1, x.r.2.2.1, x.r.2.2.2.1, y.r.1, y.r.2.1, ())⟩) :=
  ro_catTu (f := fun (x : α × β × γ × α3 × Unit) (y : α4 × α5 × Unit) => (x.1, x.2.1, x.2.2.1, x.2.2.2.1, y.1, y.2.1, ())) (n := 3) (m := 1) (lenC (lenC (lenC (lenC len0)))) (lenC (lenC len0)) (by decide) fun J I vs ws b c ⟨v, r, e, h, v1, r1, e1, h1, v2, r2, e2, h2, v3, r3, e3, h3, h4⟩ h5 => by
    cases (show r3 = [] from h4)
    exact ⟨v, r ++ ws, by rw [e]; rfl, h, v1, r1 ++ ws, by rw [e1]; rfl, h1, v2, r2 ++ ws, by rw [e2]; rfl, h2, v3, ws, by rw [e3]; rfl, h3, h5⟩
theorem ro_catT61 : RO2 (rCatT K) (rTu K (rsC A0 (rsC A1 (rsC A2 (rsC A3 (rsC A4 (rsC A5 rs0))))))) (rTu K (rsC A6 rs0)) (rTu K (rsC A0 (rsC A1 (rsC A2 (rsC A3 (rsC A4 (rsC A5 (rsC A6 rs0)))))))) (fun x y => D.pure ⟨(x.r.1, x.r.2.1, x.r.2.2.1, x.r.2.2.2.1, x.r.2.2.2.2.1, x.r.2.2.2.2.2.1, y.r.1, ())⟩) :=
  ro_catTu (f := fun (x : α × β × γ × α3 × α4 × α5 × Unit) (y : α6 × Unit) => (x.1, x.2.1, x.2.2.1, x.2.2.2.1, x.2.2.2.2.1, x.2.2.2.2.2.1, y.1, ())) (n := 5) (m := 0) (lenC (lenC (lenC (lenC (lenC (lenC len0)))))) (lenC len0) (by decide) fun J I vs ws b c ⟨v, r, e, h, v1, r1, e1, h1, v2, r2, e2, h2, v3, r3, e3, h3, v4, r4, e4, h4, v5, r5, e5, h6, h7⟩ h5 => by
    cases (show r5 = [] from h7)
    exact ⟨v, r ++ ws, by rw [e]; rfl, h, v1, r1 ++ ws, by rw [e1]; rfl, h1, v2, r2 ++ ws, by rw [e2]; rfl, h2, v3, r3 ++ ws, by rw [e3]; rfl, h3, v4, r4 ++ ws, by rw [e4]; rfl, h4, v5, ws, by rw [e5]; rfl, h6, h5⟩
end
end
end Lx
namespace Lx
open PySem PySem.Spec PyProof.Rows L2 TL
/-! ### lists put together, the first one read alone -/
def rCatL (K : PySem.W.Frag) : R2 := fun x y H Q => ∃ l b xs zs, x = .ref l ∧ y = .ref b ∧ SqL K H l xs ∧ SqL K H b zs ∧ xs.length + zs.length ≤ sizeLine ∧ ∀ p, H p = none → Q (.ref p) (upd H p (.lst (xs ++ zs)))
theorem catLK {X : Cx} (K : PySem.W.Frag) (h : X.K = K) : OpR X (binaryOp .Add) (rCatL K) := by
  subst h
  intro pins s σ H x y v u Q I rx ry h
  obtain ⟨l, b, xs, zs, rfl, rfl, hH, hB, hz, q⟩ := h
  cases rx
  cases ry
  obtain ⟨its, r, ht, _⟩ := I.list hH
  obtain ⟨its2, r2, ht2, _⟩ := I.list hB
  obtain ⟨⟨cls, dd, data, sl⟩, ho, hc, n, hd⟩ := ht.isList
  obtain ⟨⟨cls2, dd2, data2, sl2⟩, ho2, hc2, n2, hd2⟩ := ht2.isList
  simp only at hc hd hc2 hd2
  subst hc hd hc2 hd2
  have l1 := r.length
  have l2 := r2.length
  refine concat_meets ⟨_, ho, rfl⟩ ⟨_, ho2, rfl⟩ noFill_list_add seq_list_add PySem.F.slot_list_add PySem.F.entry_list_add (PySem.F.args_list_add_2 _ _) (list_addW l b its.toArray its2.toArray n n2 dd dd2 sl sl2 (by rw [List.size_toArray, List.size_toArray]; omega)) ⟨ho, ho2, ?_⟩
  have ea : its.toArray ++ its2.toArray = (its ++ its2).toArray := by simp
  rw [ea]
  exact ⟨.ref _, _, I.lnew (t' := s.toks) (r.append r2) (by rw [List.length_append]; omega), rfl, q _ I.fresh⟩
section
variable {Z : Px} {j : Bool} {Γ : List Cell} {α β γ δ κ : Type} {K : PySem.W.Frag}
variable {S L S' : Type} {R : Rf γ} {Γn : S → List Cell} {Γl : L → List Cell}
theorem prd_getG {A B : Type} {R : A → B → Prop} : ∀ {vs : List A} {xs : List B} {i : Nat}, Paired R vs xs → i < xs.length → ∃ v a, vs[i]? = some v ∧ xs[i]? = some a ∧ R v a
  | _, _, _, .nil, h => absurd h (by simp)
  | _, _, 0, .cons r _, _ => ⟨_, _, rfl, rfl, r⟩
  | _, _, i + 1, .cons _ t, h => by
    obtain ⟨v, a, e1, e2, r⟩ := prd_getG (i := i) t (by simpa using h)
    exact ⟨v, a, e1, e2, r⟩
theorem ro_catScr {A : Rp α} : RO2 (rCatL K) (rScr K A) (rL A) (rL A) (fun xs ys => D.need (xs.l.length + ys.length ≤ sizeLine) (D.pure (xs.l ++ ys))) := fun J I H v u a b Q P X sj s ha hb hk q => by
  obtain ⟨p, vs, rfl, e, l, pr⟩ := ha
  obtain ⟨p2, vs2, rfl, e2, l2, pr2⟩ := hb
  refine ⟨p, p2, vs, vs2, rfl, rfl, s.seq e, SqL.of (s _ _ e2), by rw [prd_len pr, prd_len pr2]; exact hk.1, fun n hn => ?_⟩
  have g := Gw.new1 (sj.trans s) hn (.lst (vs ++ vs2))
  exact q _ _ _ _ hk.2 g ⟨n, _, rfl, upd_same, by rw [List.length_append]; exact hk.1, prd_mono A g.i (paired_app pr pr2)⟩
/-- {} -/
theorem se_dnil {kf : κ → Key} {B : Rp β} : SE Z j Γ tDNewK (rK kf B) (D.pure []) := fun φ σ w H Q P X hn hA hm kk x p hp => by
  have g := Gw.new1 hA.go.sub hp (.dK [])
  exact kk [] _ _ _ hm (.of_gw g) ((rK kf B).up (i_tp (w := w.to _) j (hA.step (.of_gw g)).go) ⟨p, [], rfl, upd_same, .nil⟩)
/-- the pairs of a dict that is walked -/
theorem si_itemsV {kf : κ → Key} {A : Rp κ} {B : Rp β} {i : Nat} {d : List (κ × β)} {okK : κ → Prop} (f : B.flat) (kd : ∀ J I k, okK k → A.top J I (kV (kf k)) k) (hl : look Γ i = some ⟨.o (oKz kf B), i, d⟩) : SI Z true Γ (iItems (tVar i)) (rTu Z.K (rsC A (rsC B rs0))) (D.need (d.length ≤ sizeLine) (D.need (∀ p ∈ d, okK p.1) (D.pure (d.map fun p => Tu.mk (p.1, p.2, ()))))) := fun φ σ w H Rr P X hn hA hm k x => by
  obtain ⟨v, e, l, hl0, L, o, kvs, rfl, f2, f3, f4⟩ := hA.hold i _ hl
  have f2 : l L ≠ none := f2
  have f3 : H L = some (.frz o (.dK kvs)) := f3
  have f4 : Paired (PKV kf B (fun _ => none)) kvs d := f4
  have hl0 : ∀ b, l b ≠ none → w.own b = some i ∧ H b ≠ none := hl0
  have lk := Paired.length f4
  have jn : tp true (w.to w.I) w.I H L = some (.frz o (.dK kvs)) := jn_some.mpr ⟨(hA.go.apo L i (hl0 L f2).1).2.2, f3⟩
  refine ⟨_, e, L, o, kvs, rfl, f3, k (d.map fun p => Tu.mk (p.1, p.2, ())) _ w.I H hm.2.2 hA.rf (by rw [List.length_map]; exact hm.1) ⟨fun H1 s1 => ⟨s1 _ _ jn, by rw [List.length_map, lk]; exact Nat.le_refl _⟩, fun n H1 hi s1 => ⟨s1 _ _ jn, by rw [List.length_map] at hi; omega⟩, fun n I H1 y H2 hi s1 s0 s2 ⟨T, k', v', ek, ey, hT, eH⟩ => ?_⟩⟩
  rw [List.length_map] at hi
  obtain ⟨p, q, q1, q2, q3, q4⟩ := prd_getG (i := n) f4 (by omega)
  rw [q1] at ek
  cases ek
  have g := Gw.new1 s2 hT (.tup [kV k', v'])
  have mq : q ∈ d := List.mem_of_getElem? q2
  refine ⟨Tu.mk (q.1, q.2, ()), _, by rw [List.getElem?_map, q2]; rfl, by rw [eH]; exact g, ?_⟩
  subst ey
  refine ⟨T, _, rfl, SqT.of upd_same, kV k', [v'], rfl, ?_, v', [], rfl, f _ _ _ _ _ _ q4, rfl⟩
  rw [show k' = kf q.1 from q3]
  exact kd _ _ _ (hm.2.1 q mq)
theorem kd_S : ∀ (J I : Hp) k, (My.Asc k ∧ k.length ≤ sizeLine) → rS.top J I (kV (Sum.inr k)) k := fun J I k h => ⟨rfl, h⟩
/-! ### kinds of tuples -/
theorem tyx_sqT {H : Hp} {a : Addr} {vs : List V} (h : SqT K H a vs) : TyX K H (.ref a) (.type "tuple") := by
  rcases h with (h | ⟨o, h⟩) | ⟨o, its, n, h1, h2, _⟩
  · exact .base (.tup h)
  · exact .fTuple h
  · exact .kTuple h1 h2
theorem tyx_T {A : Rp α} : ∀ (J I : Hp) v a, (rT K A).top J I v a → ∀ H, Same J H → TyX K H v (.type "tuple") := fun _ _ v a ⟨p, vs, e, h, _⟩ _ s => by rw [e]; exact tyx_sqT (Same.seqT s h)
theorem tyx_Tu {B : Rps β} : ∀ (J I : Hp) v a, (rTu K B).top J I v a → ∀ H, Same J H → TyX K H v (.type "tuple") := fun _ _ v a ⟨p, vs, e, h, _⟩ _ s => by rw [e]; exact tyx_sqT (Same.seqT s h)
theorem ro_lenTu {n : Nat} {B : Rps β} (ln : ∀ J I vs b, B.top J I vs b → vs.length = n) : ROA (fun xs H Q => ∃ p ys, xs = [.ref p] ∧ (SqL K H p ys ∨ SqT K H p ys) ∧ Q (.int ys.length) H) (rsC (rTu K B) rs0) rI (fun b => D.pure (n : Int)) := fun J I H vs b Q P X sj s ⟨v, r, e, ⟨p, us, e1, e2, k⟩, h2⟩ hk q => by
  cases (show r = [] from h2)
  subst e1
  exact ⟨p, us, e, .inr (Same.seqT s e2), q _ _ I H hk (Gw.refl (sj.trans s)) (by rw [ln _ _ _ _ k]; rfl)⟩
/-- what is read where it stays -/
def ROA0 (r : List V → Hp → VK → Prop) (S : Rps β) (C : Rp γ) (k : β → D γ) : Prop := ∀ (I H : Hp) (vs : List V) (b : β) (Q : VK) (P : γ → Prop) (X : Ex → Prop), Same I H → S.rep I vs b → k b P X →
  (∀ c x I' H', P c → Gw I H I' H' → C.rep I' x c → Q x H') → r vs H Q
theorem se_cb0 {r : List V → Hp → VK → Prop} {S : Rps β} {C : Rp γ} {k : β → D γ} {t : TA} {m : D β} (ro : ROA0 r S C k) (h : SA Z false Γ t S m) : SE Z j Γ (tCB r t) C (D.bind m k) := fun φ σ w H Q P X hn hA hm kk x =>
  h φ σ w H _ _ X hn hA hm (fun a v I1 H1 pa s1 ra => ro I1 H1 v a Q P X s1.sub ra pa fun c y I' H' pc g rc =>
    kk c y I' H' pc (s1.trans (.of_gw g)) (C.up (i_tp (w := w.to I') j (hA.step (s1.trans (.of_gw g))).go) rc)) x
/-- tuple(a list or a tuple) -/
theorem ro_tupQ {A : Rp α} : ROA0 (fun xs H Q => ∃ p ys, xs = [.ref p] ∧ ((SqL K H p ys ∧ ∀ l, H l = none → Q (.ref l) (upd H l (.tup ys))) ∨ (SqT K H p ys ∧ Q (.ref p) H))) (rsC (rQ K A) rs0) (rT K A) (fun b => D.pure ⟨b.1.l⟩) := fun I H vs b Q P X s ⟨v, r, e, ⟨p, us, e1, e2, l, pr⟩, h2⟩ hk q => by
  cases (show r = [] from h2)
  subst e1
  rcases e2 with e2 | e2
  · refine ⟨p, us, e, .inl ⟨SqL.of (s _ _ e2), fun n hn => ?_⟩⟩
    have g := Gw.new1 s hn (.tup us)
    exact q _ _ _ _ hk g ⟨n, us, rfl, SqT.of upd_same, l, prd_mono A g.i pr⟩
  · exact ⟨p, us, e, .inr ⟨Same.seqT s e2, q _ _ I H hk (Gw.refl s) ⟨p, us, rfl, e2, l, pr⟩⟩⟩
/-! ### new lists: one of two, a slice, what a method gives -/
theorem sn_if {c : TT} {t u : TE} {A : Rp α} {mc : D Bool} {m m2 : D (List α)} (hc : ST Z Γ c mc) (h : SN Z Γ t A m) (h' : SN Z Γ u A m2) : SN Z Γ (tIf c t u) A (fun P X => mc (fun b => if b = true then m P X else m2 P X) X) := fun φ σ w H Q P X hn hA hm k x => hc φ σ w H _ _ X hn hA hm (fun a I' H' pa s => by
  cases a with
  | true => exact h φ σ (w.to I') H' _ P X hn (hA.step s) pa (fun ys us p I2 H2 py g hp ip ep ly pr => k ys us p I2 H2 py (s.trans g) (none_of s hp) ip ep ly pr) (xg s x)
  | false => exact h' φ σ (w.to I') H' _ P X hn (hA.step s) pa (fun ys us p I2 H2 py g hp ip ep ly pr => k ys us p I2 H2 py (s.trans g) (none_of s hp) ip ep ly pr) (xg s x)) x
theorem sn_slL {A : Rp α} {te : TE} {tl th : TO} {ma : D (List α)} {ml mh : D (Option Int)} (ha : SE Z true Γ te (rL A) ma) (hl : SP Z Γ tl ml) (hh : SP Z Γ th mh) : SN Z Γ (L2.tSl (rSlL K) te tl th) A (D.bind ma fun a => D.bind ml fun lo => D.bind mh fun hi => D.pure (cutL a lo hi)) := fun φ σ w H Q P X hn hA hm kk x =>
  ha φ σ w H _ _ X hn hA hm (fun a v I1 H1 pa s1 ra => hl φ σ (w.to I1) H1 _ _ X hn (hA.step s1) pa (fun lo I2 H2 pb s2 => hh φ σ (w.to I2) H2 _ _ X hn (hA.step (s1.trans s2)) pb (fun hi I3 H3 pc s3 => by
    have g := (s1.trans s2).trans s3
    obtain ⟨p, vs, e, h, l, pr⟩ := ra
    have h3 := tp_sub (j := true) (w := w.to I3) s3.sub _ _ (tp_go (w := w.to I1) (j := true) (s2.trans s3) _ _ h)
    exact ⟨p, vs, e, SqL.of h3, fun n hn => kk (cutL a lo hi) (cutV vs lo hi) n I3 _ pc (g.trans (go_loose (w := w.to I3) hn (Go.rf (w := w.to I3) s3.sub) (s3.sub.free hn) _)) (none_of g hn) (s3.sub.free hn) upd_same (Nat.le_trans (cutL_len _ _ _) l) (prd_mono A (s2.trans s3).i (cut_prd pr lo hi))⟩) (xg (s1.trans s2) x)) (xg s1 x)) x
theorem sn_methL {E : XK} {C : Addr} {m : Str} {A : Rp α} {B : Rps β} {R : Rp γ} {k : α × β → D (List γ)} {ta : TE} {t : TA} {ma : D α} {mb : D β} (nd : Ndo A C m) (ha : SE Z false Γ ta A ma) (hb : SA Z false Γ t B mb) :
    SN Z Γ (tMeth C m (spL (rsC A B) R k) [] E ta t) R (D.bind ma fun a => D.bind mb fun b => D.nox (k (a, b))) := fun φ σ w H Q P X hn hA hm kk x =>
  ha φ σ w H _ _ X hn hA hm (fun a v I1 H1 pa s1 ra => by
    obtain ⟨p, dx, fs, e1, e2, e3⟩ := nd _ _ _ _ (show A.top I1 I1 v a from ra)
    refine ⟨p, dx, fs, e1, s1.sub _ _ e2, e3, hb φ σ (w.to I1) H1 _ _ X hn (hA.step s1) pa (fun b us I2 H2 pb s2 rb => ?_) (xg s1 x)⟩
    rw [List.append_nil]
    have g := s1.trans s2
    exact ⟨I2, (a, b), P, s2.sub, ⟨v, us, rfl, A.mn s2.i ra, rb⟩, pb, fun ys us p I' H' py g' hp ip ep ly pr => kk ys us p I' H' py (g.trans (.of_gw g')) (none_of g hp) ip ep ly pr⟩) x
end
end Lx
namespace Ak
open PySem PySem.Spec PyProof.Rows L2 TL Lx Mo
open Lw Ls
abbrev Hd := Tu (Str × Str × Unit)
abbrev Sn := Tu (Option Int × Option Int × Unit)
structure AskR where
  path : Str
  heads : Tv Hd
  spans : Tv Sn
  «unless» : Tv Str
  when : Option Str
  wish : WishR
def worthB (z : Str) : Bool := ofB (Str.ofString "abcdefghijklmnopqrstuvwxyz0123456789-") 0 12 z
def pathB (z : Str) : Bool := decide ((Txt.split z (Str.ofString "/")).length ≤ 4) && (Txt.split z (Str.ofString "/")).all nameB
def mkB (z : Str) : Bool := decide (cutS z none (some 1) ∈ [Str.ofString "s", Str.ofString "w"]) && figB (cutS z (some 1) none)
def strongB (z : Str) : Bool := decide (cutS z none (some 1) = Str.ofString "s")
def bndB : Option Int → Bool
  | none => true
  | some a => decide (0 ≤ a)
def edgB : Option Int → Option Int → Bool
  | none, none => false
  | none, some b => decide (0 < b)
  | some _, none => true
  | some a, some b => decide (a < b)
def spanB (s : Sn) : Bool := bndB s.r.1 && (bndB s.r.2.1 && edgB s.r.1 s.r.2.1)
def pairD (d : List (Str × Str)) : List Hd := d.map fun p => ⟨(p.1, p.2, ())⟩
def rowD (d : List (Str × Str)) : List Hd := (pairD d).filter fun x => !decide (x.r.2.1 = Str.ofString "")
def hdsB (d : List (Str × Str)) : Bool := d.all fun q => nameB q.1 && worthB q.2
def wrongA (p : Str) (h : List (Str × Str)) (sp : List Sn) (un : List Str) (wh : Option Str) : Option Str :=
  if pathB p = false then some (Str.ofString "path") else if hdsB h = false then some (Str.ofString "heads") else if sp.all spanB = false then some (Str.ofString "spans") else if un.all mkB = false then some (Str.ofString "unless") else match wh with
    | some m => if mkB m = false then some (Str.ofString "when") else none
    | none => none
/-- the whole text is wanted -/
def wholeA (a : AskR) (m : Str) : Bool := a.spans.l.isEmpty || match a.when with
  | none => false
  | some h => !decide (h = m) || !strongB h
def wantA (a : AskR) (m : Str) (n : Int) : List (Int × Int) := if wholeA a m = true then strT [] n else strT (a.spans.l.map unS) n
def wordA (a : AskR) (m : Option Str) (n : Int) : Str := match m with
  | none => Str.ofString "gone"
  | some k => if k ∈ a.«unless».l then Str.ofString "same" else if wholeA a k = true then Str.ofString "whole" else if (wantA a k n).length = 0 then Str.ofString "beyond" else Str.ofString "part"
structure OkAsk (a : AskR) : Prop where
  when : ∀ m, a.when = some m → mkB m = true
  many : a.spans.l.length ≤ 1000
  span : ∀ s ∈ a.spans.l, good5 (unS s)
theorem bnd_eq (o : Option Int) {P : Bool → Prop} (h : P (bndB o)) : if o.isNone = true then P true else ∃ a, o = some a ∧ if True then ∃ a, o = some a ∧ P (decide (0 ≤ a)) else P false := by
  cases o with
  | none => exact h
  | some a => exact iteF' (by simp) ⟨a, rfl, iteT' trivial ⟨a, rfl, h⟩⟩
theorem end_eq (x y : Option Int) {P : Bool → Prop} (h : P (edgB x y)) : if x.isNone = true then if y.isSome = true then ∃ a, y = some a ∧ P (decide (0 < a)) else P false
  else if y.isNone = true then P true else ∃ a, x = some a ∧ ∃ a_1, y = some a_1 ∧ P (decide (a < a_1)) := by
  cases x with
  | none => cases y with
    | none => exact iteT' rfl (iteF' (by simp) h)
    | some b => exact iteT' rfl (iteT' rfl ⟨b, rfl, h⟩)
  | some a => cases y with
    | none => exact iteF' (by simp) (iteT' rfl h)
    | some b => exact iteF' (by simp) (iteF' (by simp) ⟨a, rfl, b, rfl, h⟩)
theorem good_of {s : Sn} (h : spanB s = true) : good5 (unS s) := by
  obtain ⟨⟨lo, hi, u⟩⟩ := s
  unfold spanB at h
  rw [Bool.and_eq_true, Bool.and_eq_true] at h
  obtain ⟨h1, h2, h3⟩ := h
  cases lo with
  | none => cases hi with
    | none => cases h3
    | some n =>
      have : 0 < n := of_decide_eq_true h3
      show 1 ≤ n
      omega
  | some a =>
    have h4 : 0 ≤ a := of_decide_eq_true h1
    cases hi with
    | none => exact h4
    | some n => exact ⟨h4, of_decide_eq_true h3⟩
theorem tl_to (z : Str) (n : Nat) : tl (cutS z none (some (n : Int))) = (tl z).take n := by
  rw [← Mo.cutL_take]
  unfold cutL
  rw [My.len_tl]
  rfl
theorem mk_ne {z : Str} (h : mkB z = true) : ∃ c r, z.cps.toList = c :: r := by
  unfold mkB at h
  rw [Bool.and_eq_true] at h
  cases e : z.cps.toList with
  | cons c r => exact ⟨c, r, rfl⟩
  | nil =>
    have ez : z = Str.ofString "" := PyProof.Rows.ext_toList (by rw [e]; rfl)
    rw [ez] at h
    exact absurd (of_decide_eq_true h.1) (by decide)
theorem strong_eq {z : Str} {c : Nat} {r : List Nat} (e : z.cps.toList = c :: r) : decide ((⟨#[c]⟩ : Str) = Str.ofString "s") = strongB z := by
  unfold strongB
  refine decide_eq_decide.mpr ?_
  have h1 : cutS z none (some 1) = (⟨#[c]⟩ : Str) := ext_tl (by
    have := tl_to z 1
    rw [show tl (cutS z none (some 1)) = _ from this, show tl z = c :: r from e]
    rfl)
  rw [h1]
theorem sort_nil {α : Type} (enc : α → PyData) : sortD enc [] = [] := by
  unfold sortD
  exact List.mergeSort_nil
theorem cutL_drop {α : Type} (xs : List α) (n : Nat) : cutL xs (some (n : Int)) none = xs.drop n := by
  unfold cutL
  rw [HT.sIx_nat, show HT.sIx xs.length xs.length none = xs.length from rfl]
  rcases Nat.le_total n xs.length with h | h
  · rw [Nat.min_eq_left h, List.take_of_length_le (by rw [List.length_drop]; exact Nat.le_refl _)]
  · rw [Nat.min_eq_right h, List.drop_of_length_le (Nat.le_refl _), List.drop_of_length_le h, List.take_nil]
theorem tl_from (z : Str) (n : Nat) : tl (cutS z (some (n : Int)) none) = (tl z).drop n := by
  rw [← cutL_drop]
  unfold cutL
  rw [My.len_tl]
  rfl
/-- the law's own way to tell places and words -/
def lawW (ps : List Sn) (oth mark : Option Str) : Bool := ps.isEmpty || match oth with
  | none => false
  | some h => !decide (some h = mark) || !strongB h
def placesT (ps : List Sn) (oth mark : Option Str) (n : Int) : List Int := if lawW ps oth mark = true then rngL 0 n.toNat else (rngL 0 n.toNat).filter fun x => ps.any fun s => tells n x (unS s)
def wordW (ps : List Sn) (mine : List Str) (oth mark : Option Str) (n : Int) : Str := match mark with
  | none => Str.ofString "gone"
  | some k => if k ∈ mine then Str.ofString "same" else if lawW ps oth (some k) = true then Str.ofString "whole" else if placesT ps oth (some k) n = [] then Str.ofString "beyond" else Str.ofString "part"
theorem weak_eq {z : Str} {c : Nat} {r : List Nat} (e : z.cps.toList = c :: r) (h : mkB z = true) : (⟨#[c]⟩ : Str) = Str.ofString "w" ↔ strongB z = false := by
  have h1 : cutS z none (some 1) = (⟨#[c]⟩ : Str) := ext_tl (by
    have := tl_to z 1
    rw [show tl (cutS z none (some 1)) = _ from this, show tl z = c :: r from e]
    rfl)
  unfold mkB at h
  rw [Bool.and_eq_true, h1] at h
  have h2 := of_decide_eq_true h.1
  unfold strongB
  rw [h1, decide_eq_false_iff_not]
  simp only [List.mem_cons, List.not_mem_nil, or_false] at h2
  constructor
  · intro q z2
    rw [q] at z2
    exact absurd z2 (by decide)
  · intro q
    rcases h2 with h2 | h2
    · exact absurd h2 q
    · exact h2
theorem nat_lt {n : Int} {k : Nat} (h0 : 0 ≤ n) (h : n < 10 ^ k) : ∃ m : Nat, n = (m : Int) ∧ m < 10 ^ k := by
  obtain ⟨m, rfl⟩ := Int.eq_ofNat_of_zero_le h0
  refine ⟨m, rfl, ?_⟩
  have : ((10 ^ k : Nat) : Int) = (10 : Int) ^ k := by rw [Int.natCast_pow]; rfl
  rw [← this] at h
  exact Int.ofNat_lt.mp h
theorem num_ok60 {n : Int} (h0 : 0 ≤ n) (h1 : n < 10 ^ 60) : (n.natAbs.log2 < 1920 ∧ My.Asc (Str.ofString (toString n)) ∧ (Str.ofString (toString n)).length ≤ sizeLine) ∧ (Str.ofString (toString n)).length ≤ 100 := by
  have o1 := Lx.strI_ok (k := 60) h0 h1 (by decide)
  have o2 := Lx.len_num (k := 60) (by decide) h0 h1
  exact ⟨o1, Nat.le_trans o2 (by decide)⟩
theorem mk_of {c : Nat} {n : Int} (hc : c ∈ (Str.ofString "sw").cps.toList) (h0 : 0 ≤ n) (h1 : n ≤ 10 ^ 40) : mkB ((⟨#[c]⟩ : Str) ++ Str.ofString (toString n)) = true := by
  have l60 : (10 : Int) ^ 40 < 10 ^ 60 := by decide +kernel
  obtain ⟨m, rfl, hm⟩ := nat_lt (k := 60) h0 (by omega)
  have hl : (tl (⟨#[c]⟩ : Str)).length = 1 := rfl
  have e1 : cutS ((⟨#[c]⟩ : Str) ++ Str.ofString (toString (m : Int))) none (some 1) = (⟨#[c]⟩ : Str) := ext_tl (by
    have := tl_to ((⟨#[c]⟩ : Str) ++ Str.ofString (toString (m : Int))) 1
    rw [show tl (cutS ((⟨#[c]⟩ : Str) ++ Str.ofString (toString (m : Int))) none (some 1)) = _ from this, tl_append, List.take_append_of_le_length (by omega), List.take_of_length_le (by omega)])
  have e2 : cutS ((⟨#[c]⟩ : Str) ++ Str.ofString (toString (m : Int))) (some 1) none = Str.ofString (toString (m : Int)) := ext_tl (by
    have := tl_from ((⟨#[c]⟩ : Str) ++ Str.ofString (toString (m : Int))) 1
    rw [show tl (cutS ((⟨#[c]⟩ : Str) ++ Str.ofString (toString (m : Int))) (some 1) none) = _ from this, tl_append, List.drop_append_of_le_length (by omega), List.drop_of_length_le (by omega), List.nil_append])
  unfold mkB
  have hc2 : (⟨#[c]⟩ : Str) ∈ [Str.ofString "s", Str.ofString "w"] := by
    have e3 : (Str.ofString "sw").cps.toList = [115, 119] := by decide
    rw [e3] at hc
    simp only [List.mem_cons, List.not_mem_nil, or_false] at hc
    rcases hc with rfl | rfl <;> decide
  rw [e1, e2, decide_eq_true hc2, Bool.true_and]
  exact fig_nT hm
/-- the law's own way to tell stretches -/
def stepL (s : List (Tu (Int × Int × Unit))) (x : Int) : List (Tu (Int × Int × Unit)) := (stepJ (s.map un2).reverse (x, x + 1)).reverse.map tu2
theorem foldL0 : ∀ (xs : List Int) (s : List (Tu (Int × Int × Unit))), xs.foldl stepL s = (((xs.map fun x => (x, x + 1)).foldl stepJ (s.map un2).reverse).reverse).map tu2
  | [], s => by
    show s = ((s.map un2).reverse.reverse).map tu2
    rw [List.reverse_reverse, tu2_un2]
  | x :: r, s => by
    show r.foldl stepL (stepL s x) = _
    rw [foldL0 r]
    unfold stepL
    rw [un2_tu2, List.reverse_reverse]
    rfl
theorem foldL (xs : List Int) : xs.foldl stepL [] = (jn (xs.map fun x => (x, x + 1))).map tu2 := foldL0 xs []
def wish0 : WishR := ⟨none, 0, 0, false, false, false⟩
theorem rdWish_nil {P : WishR → Prop} {X : Ex → Prop} (h : P wish0) : rdWish (Str.ofString "") P X := by
  have e0 : wordsT (Str.ofString "") = [] := by decide +kernel
  refine ⟨by decide, fun ds e _ => ?_, fun i hi => ?_⟩
  · rw [e0] at e
    have : ds = [] := List.map_eq_nil_iff.mp e.symm
    subst this
    exact h
  · rw [e0] at hi
    cases hi
theorem ok_wish0 : okWish wish0 := by
  have h0 : okI 0 := ⟨by decide, by decide +kernel⟩
  exact ⟨fun n e => (nomatch e), h0, h0⟩
theorem spell0 : spellW wish0 = Str.ofString "" := by decide +kernel
theorem mem_rngL {x : Int} {n : Nat} : x ∈ rngL 0 n ↔ 0 ≤ x ∧ x < n := by
  unfold rngL
  rw [List.mem_map]
  constructor
  · rintro ⟨k, hk, rfl⟩
    have := List.mem_range.mp hk
    omega
  · rintro ⟨h0, h1⟩
    exact ⟨x.toNat, List.mem_range.mpr (by omega), by omega⟩
theorem rngL_lt (n : Nat) : (rngL 0 n).Pairwise (· < ·) := by
  unfold rngL
  exact (List.pairwise_lt_range).map _ fun a b h => by omega
theorem rows_ok {xs : List Int} (h : xs.Pairwise (· < ·)) : can (jn (xs.map fun x => (x, x + 1))) ∧ ∀ x, cov (jn (xs.map fun x => (x, x + 1))) x ↔ x ∈ xs := by
  obtain ⟨h1, h2⟩ := jn_ok (S := xs.map fun x => (x, x + 1)) (h.map _ fun a b q => by show a + 1 ≤ b; omega) (fun u hu => by
    obtain ⟨x, _, rfl⟩ := List.mem_map.mp hu
    show x < x + 1
    omega)
  refine ⟨h1, fun x => (h2 x).trans ⟨?_, fun hx => ⟨(x, x + 1), List.mem_map.mpr ⟨x, hx, rfl⟩, Int.le_refl _, by show x < x + 1; omega⟩⟩⟩
  rintro ⟨u, hu, k1, k2⟩
  obtain ⟨y, hy, rfl⟩ := List.mem_map.mp hu
  have k1 : y ≤ x := k1
  have k2 : x < y + 1 := k2
  have : x = y := by omega
  rw [this]
  exact hy
theorem str_ok {n : Int} (h0 : 0 ≤ n) {sps : List Spn} (hg : ∀ s ∈ sps, good5 s) : can (strT sps n) ∧ ∀ x, cov (strT sps n) x ↔ (0 ≤ x ∧ x < n) ∧ (sps = [] ∨ ∃ s ∈ sps, tells n x s = true) := by
  obtain ⟨r1, r2, r3⟩ := strT_ok h0 hg
  refine ⟨⟨r1, fun u hu => (r2 u hu).2.1⟩, fun x => ⟨fun c => ?_, fun c => (r3 x c.1.1 c.1.2).mpr c.2⟩⟩
  obtain ⟨u, hu, k1, k2⟩ := id c
  obtain ⟨q1, q2, q3⟩ := r2 u hu
  have b : 0 ≤ x ∧ x < n := ⟨by omega, by omega⟩
  exact ⟨b, (r3 x b.1 b.2).mp c⟩
theorem whole_eq (a : AskR) (k : Str) : lawW a.spans.l a.when (some k) = wholeA a k := by
  unfold lawW wholeA
  cases a.when with
  | none => rfl
  | some h =>
    show (_ || (!decide (some h = some k) || !strongB h)) = (_ || (!decide (h = k) || !strongB h))
    congr 3
    exact decide_eq_decide.mpr ⟨Option.some.inj, congrArg some⟩
/-- the law's rows are what is wanted -/
theorem rows_want {a : AskR} {k : Str} {n : Int} (h0 : 0 ≤ n) (ok : OkAsk a) : jn ((placesT a.spans.l a.when (some k) n).map fun x => (x, x + 1)) = wantA a k n := by
  have ew := whole_eq a k
  unfold placesT wantA
  rw [ew]
  by_cases c : wholeA a k = true
  · rw [if_pos c, if_pos c]
    obtain ⟨c1, c2⟩ := rows_ok (rngL_lt n.toNat)
    obtain ⟨d1, d2⟩ := str_ok h0 (sps := []) (fun _ h => nomatch h)
    refine can_eq _ _ c1 d1 fun x => ?_
    rw [c2, d2, mem_rngL]
    exact ⟨fun h => ⟨⟨h.1, by omega⟩, .inl rfl⟩, fun h => ⟨h.1.1, by omega⟩⟩
  · rw [if_neg c, if_neg c]
    have ne : a.spans.l ≠ [] := fun z => c (by unfold wholeA; rw [z]; rfl)
    obtain ⟨c1, c2⟩ := rows_ok ((rngL_lt n.toNat).filter fun x => a.spans.l.any fun s => tells n x (unS s))
    obtain ⟨d1, d2⟩ := str_ok h0 (sps := a.spans.l.map unS) (fun s hs => by
      obtain ⟨t, ht, rfl⟩ := List.mem_map.mp hs
      exact ok.span t ht)
    refine can_eq _ _ c1 d1 fun x => ?_
    rw [c2, d2, List.mem_filter, mem_rngL, List.any_eq_true]
    constructor
    · rintro ⟨b, s, hs, ts⟩
      exact ⟨⟨b.1, by omega⟩, .inr ⟨_, List.mem_map.mpr ⟨s, hs, rfl⟩, ts⟩⟩
    · rintro ⟨b, q⟩
      refine ⟨⟨b.1, by omega⟩, ?_⟩
      rcases q with q | ⟨s, hs, ts⟩
      · exact absurd (List.map_eq_nil_iff.mp q) ne
      · obtain ⟨t, ht, rfl⟩ := List.mem_map.mp hs
        exact ⟨t, ht, ts⟩
theorem places_lt (ps : List Sn) (oth mark : Option Str) (n : Int) : (placesT ps oth mark n).Pairwise (· < ·) := by
  unfold placesT
  split
  · exact rngL_lt _
  · exact (rngL_lt _).filter _
theorem places_len (ps : List Sn) (oth mark : Option Str) (n : Int) : (placesT ps oth mark n).length ≤ n.toNat := by
  unfold placesT
  split
  · rw [rngL_len]
    exact Nat.le_refl _
  · refine Nat.le_trans (List.length_filter_le _ _) ?_
    rw [rngL_len]
    exact Nat.le_refl _
theorem word_eq {a : AskR} (ok : OkAsk a) (mk : Option Str) {n : Int} (h0 : 0 ≤ n) : wordA a mk n = wordW a.spans.l a.«unless».l a.when mk n := by
  cases mk with
  | none => rfl
  | some k =>
    show (if k ∈ a.«unless».l then _ else _) = (if k ∈ a.«unless».l then _ else _)
    rw [whole_eq]
    have key : ((wantA a k n).length = 0) = (placesT a.spans.l a.when (some k) n = []) := by
      rw [← rows_want h0 ok]
      obtain ⟨_, c2⟩ := rows_ok (places_lt a.spans.l a.when (some k) n)
      refine propext ⟨fun h => ?_, fun h => by rw [h]; rfl⟩
      cases e : placesT a.spans.l a.when (some k) n with
      | nil => rfl
      | cons x r =>
        have := (c2 x).mpr (by rw [e]; exact List.mem_cons_self ..)
        rw [List.length_eq_zero_iff.mp h] at this
        exact absurd this cov_nil
    simp only [key]
theorem jn_nil : jn ([] : List (Int × Int)) = [] := rfl
theorem foldJ_len : ∀ (xs acc : List (Int × Int)), (xs.foldl stepJ acc).length ≤ acc.length + xs.length
  | [], _ => Nat.le_refl _
  | x :: r, acc => by
    refine Nat.le_trans (foldJ_len r (stepJ acc x)) ?_
    have : (stepJ acc x).length ≤ acc.length + 1 := by
      cases acc with
      | nil => exact Nat.le_refl _
      | cons q s =>
        rw [stepJ_cons]
        split <;> simp only [List.length_cons] <;> omega
    rw [List.length_cons]
    omega
theorem jn_len (S : List (Int × Int)) : (jn S).length ≤ S.length := by
  have := foldJ_len S []
  unfold jn
  rw [List.length_reverse]
  rw [List.length_nil] at this
  omega
theorem want_len {a : AskR} (ok : OkAsk a) (k : Str) {n : Int} (h0 : 0 ≤ n) (h1 : n < 1000) : (wantA a k n).length < sizeLine := by
  have zs : sizeLine = 16777216 := by decide
  rw [← rows_want h0 ok]
  have h := places_len a.spans.l a.when (some k) n
  have h2 := jn_len ((placesT a.spans.l a.when (some k) n).map fun x => (x, x + 1))
  rw [List.length_map] at h2
  omega
theorem law_imp63 {K : PySem.W.Frag} : ∀ vs H Q E, My.spLaw K vs H Q E → spF0 (rsC (rScr K rI) rs0) rB (fun b => D.need (b.1.l.length ≤ 63) (D.pure true)) vs H Q E := fun vs H Q E ⟨a, ns, e, hs, hl, q⟩ =>
  ⟨H, (⟨ns⟩, ()), fun c => c = true, Same.refl _, ⟨.ref a, [], e, ⟨a, ns.map V.int, rfl, hs, Nat.le_trans hl (by decide), of_ints ns⟩, rfl⟩, ⟨hl, rfl⟩, fun c v I' H' pc _ r => by
    subst pc
    rw [show v = .bl true from r]
    exact q H'⟩
end Ak
set_option synthInstance.maxSize 2000
set_option synthInstance.maxHeartbeats 200000
namespace Lx
open PySem PySem.Spec PyProof.Rows L2 TL
section
variable {Z : Px} {j : Bool} {Γ : List Cell} {α β γ δ κ : Type} {K : PySem.W.Frag}
/-- what is read once: K is what is wanted of it -/
theorem SE.cut {te : TE} {A : Rp α} {me : D α} (h : SE Z j Γ te A me) : SE Z j Γ te A (fun P X => ∃ K : α → Prop, me K X ∧ ∀ a, K a → P a) := fun φ σ w H Q P X hn hA ⟨K0, hm, hK⟩ k x => h φ σ w H Q K0 X hn hA hm (fun a v I' H' pa => k a v I' H' (hK a pa)) x
theorem SN.cut {te : TE} {A : Rp α} {me : D (List α)} (h : SN Z Γ te A me) : SN Z Γ te A (fun P X => ∃ K : List α → Prop, me K X ∧ ∀ a, K a → P a) := fun φ σ w H Q P X hn hA ⟨K0, hm, hK⟩ k x => h φ σ w H Q K0 X hn hA hm (fun ys us p I' H' py => k ys us p I' H' (hK ys py)) x
theorem sb_joinC {S L S' : Type} {R : Rf γ} {Γn : S → List Cell} {Γl : L → List Cell} {c : TT} {t u r : TS} {mc : D Bool} {m1 m2 : M γ S' L} {m : S' → M γ S L} (ρ : S' → List Cell) (hc : ST Z Γ c mc) (ht : SB Z Γ t R (fun s => ρ s ++ Γ) Γl m1) (hu : SB Z Γ u R (fun s => ρ s ++ Γ) Γl m2) (hr : ∀ s, SB Z (ρ s ++ Γ) r R Γn Γl (m s)) :
    SB Z Γ (tSeq (tIfS c t u) r) R Γn Γl (fun rt nx bk ct X => ∃ K : S' → Prop, mc (fun b => if b = true then m1 rt K bk ct X else m2 rt K bk ct X) X ∧ ∀ s, K s → m s rt nx bk ct X) := fun φ σ w H Dn rt nx bk ct X hn hA ⟨K0, hm, hK⟩ k1 k2 k3 k4 k5 =>
  (sb_if hc ht hu) φ σ w H _ rt _ bk ct X hn hA hm k1 (fun s σ' w' H' ps hA' s1 => hr s φ σ' w' H' Dn rt nx bk ct X hn hA' (hK s ps) k1 (kk2 s1 k2) (kk2 s1 k3) (kk2 s1 k4) k5) k3 k4 k5
theorem inV_ints (x : Int) (F : List Int) : inV (.int x) (F.map V.int) = decide (x ∈ F) := by
  unfold inV
  rw [List.any_map, Bool.eq_iff_iff, List.any_eq_true, decide_eq_true_iff]
  constructor
  · rintro ⟨y, hy, e⟩
    have e' : (y == x) = true := e
    rw [← eq_of_beq e']
    exact hy
  · intro h
    exact ⟨x, h, show (x == x) = true from beq_self_eq_true x⟩
theorem ro_inI : RO2 (rIn K false) rI (rL rI) rB (fun a xs => D.pure (decide (a ∈ xs))) := fun J I H v u a b Q P X sj s ha hb hk q => by
  obtain ⟨p, vs, rfl, e, l, pr⟩ := hb
  rw [ints_of pr] at e
  rw [show v = .int a from ha]
  refine ⟨p, _, rfl, .inl (SqL.of (s _ _ e)), rfl, ?_, ?_⟩
  · rw [List.all_map, List.all_eq_true]
    intro x _
    rfl
  rw [inV_ints]
  exact q _ _ I H hk (Gw.refl (sj.trans s)) rfl
/-- tuple(a tuple) -/
theorem ro_tupT0 {A : Rp α} : ROA0 (fun xs H Q => ∃ p ys, xs = [.ref p] ∧ ((SqL K H p ys ∧ ∀ l, H l = none → Q (.ref l) (upd H l (.tup ys))) ∨ (SqT K H p ys ∧ Q (.ref p) H))) (rsC (rT K A) rs0) (rT K A) (fun b => D.pure b.1) := fun I H vs b Q P X s ⟨v, r, e, ⟨p, us, e1, e2, l, pr⟩, h2⟩ hk q => by
  cases (show r = [] from h2)
  subst e1
  exact ⟨p, us, e, .inr ⟨Same.seqT s e2, q _ _ I H hk (Gw.refl s) ⟨p, us, rfl, e2, l, pr⟩⟩⟩
theorem ro_tupTu {B : Rps β} : ROA0 (fun xs H Q => ∃ p ys, xs = [.ref p] ∧ ((SqL K H p ys ∧ ∀ l, H l = none → Q (.ref l) (upd H l (.tup ys))) ∨ (SqT K H p ys ∧ Q (.ref p) H))) (rsC (rTu K B) rs0) (rTu K B) (fun b => D.pure b.1) := fun I H vs b Q P X s ⟨v, r, e, ⟨p, us, e1, e2, k⟩, h2⟩ hk q => by
  cases (show r = [] from h2)
  subst e1
  exact ⟨p, us, e, .inr ⟨Same.seqT s e2, q _ _ I H hk (Gw.refl s) ⟨p, us, rfl, e2, k⟩⟩⟩
theorem co_some_obj {C : Addr} {F : Rfs β} {to : α → β} : ∀ (J I : Hp) v a, (rCl C F to).top J I v a → (rO (rCl C F to)).top J I v (some a) := fun J I v a h => And.intro (fun e => by obtain ⟨p, dx, fs, q, _⟩ := h; rw [q] at e; cases e) h
end
end Lx
namespace Ak
open PySem PySem.Spec PyProof.Rows L2 TL Lx Mo
open Lw Ls
abbrev Pt := Tu (Int × Str × Unit)
abbrev Lk := Tu (Int × Int × Int × Unit)
instance decL : DecidableEq (Int × Int × Tv Lk × Unit) := inferInstance
instance decA0 : DecidableEq (Str × Option Str × Int × Tv Pt × Int × Int × Tv Lk × Unit) := inferInstance
instance decA : DecidableEq (Tu (Str × Option Str × Int × Tv Pt × Int × Int × Tv Lk × Unit)) := inferInstance
structure AnswerR where
  word : Str
  mark : Option Str
  size : Int
  parts : Tv Pt
  age : Int
  count : Int
  rule : RuleR
  turns : Tv Str
  tags : Tv Str
  ground : Tv Lk
def rule0 : RuleR := ⟨0, 0, 0, false, false, false, false, false⟩
def outA (f : Int → Nat) (S : List (Int × Int)) (a : AskR) (m : Option Str) (n : Int) : List Pt := if wordA a m n ∈ [Str.ofString "whole", Str.ofString "part"] then match m with
  | some k => (partsF f ((meet S (wantA a k n)).map (·.2))).map tuP
  | none => [] else []
def sizeA (a : AskR) (m : Option Str) (n : Int) : Int := if wordA a m n = Str.ofString "gone" then 0 else n
def wordV (ps : List Sn) (mine : List Str) (oth mark : Option Str) (xs : List Int) : Str := match mark with
  | none => Str.ofString "gone"
  | some k => if k ∈ mine then Str.ofString "same" else if lawW ps oth (some k) = true then Str.ofString "whole" else if xs = [] then Str.ofString "beyond" else Str.ofString "part"
theorem word_some {a : AskR} {m : Option Str} {n : Int} (h : wordA a m n ∈ [Str.ofString "whole", Str.ofString "part"]) : ∃ k, m = some k := by
  cases m with
  | some k => exact ⟨k, rfl⟩
  | none => exact absurd (show Str.ofString "gone" ∈ [Str.ofString "whole", Str.ofString "part"] from h) (by decide)
theorem want_can {a : AskR} (ok : OkAsk a) (k : Str) {n : Int} (h0 : 0 ≤ n) : can (wantA a k n) ∧ (wantA a k n).length ≤ n.toNat := by
  rw [← rows_want h0 ok]
  have h := places_len a.spans.l a.when (some k) n
  have h2 := jn_len ((placesT a.spans.l a.when (some k) n).map fun x => (x, x + 1))
  rw [List.length_map] at h2
  exact ⟨(rows_ok (places_lt _ _ _ _)).1, by omega⟩
theorem jn_snoc (S : List (Int × Int)) (p : Int × Int) : jn (S ++ [p]) = (stepJ (jn S).reverse p).reverse := by
  unfold jn
  rw [List.foldl_append, List.reverse_reverse]
  rfl
theorem cut_to (z : Str) {i : Int} (h : 0 ≤ i) : (cutS z none (some i)).length ≤ i.toNat := by
  obtain ⟨n, rfl⟩ := Int.eq_ofNat_of_zero_le h
  have e := congrArg List.length (tl_to z n)
  rw [My.len_tl, List.length_take] at e
  show _ ≤ n
  omega
theorem signs94 : ((Str.ofString " !\"#$&'()*+,-./0123456789:;<=>?@ABCDEFGHIJKLMNOPQRSTUVWXYZ") ++ (Str.ofString "[\\]^_`abcdefghijklmnopqrstuvwxyz{|}~")).cps.toList.length = 94 := by decide +kernel
/-- the law's own way to write parts -/
theorem parts_step {z : Str} {xs : List Int} {x : Int} (h : (xs ++ [x]).Pairwise (· < ·)) : (jn (xs.map fun x => (x, x + 1)) = [] ∧ jn ((xs ++ [x]).map fun x => (x, x + 1)) = [(x, x + 1)]) ∨ ∃ r q, jn (xs.map fun x => (x, x + 1)) = r ++ [q] ∧ q.1 < q.2 ∧ ((q.2 = x ∧ jn ((xs ++ [x]).map fun x => (x, x + 1)) = r ++ [(q.1, x + 1)]) ∨ (q.2 ≠ x ∧ jn ((xs ++ [x]).map fun x => (x, x + 1)) = r ++ [q] ++ [(x, x + 1)])) := by
  have e : jn ((xs ++ [x]).map fun x => (x, x + 1)) = (stepJ (jn (xs.map fun x => (x, x + 1))).reverse (x, x + 1)).reverse := by
    rw [List.map_append]
    exact jn_snoc _ _
  have hx := (List.pairwise_append.mp h).1
  obtain ⟨c1, _⟩ := rows_ok hx
  rcases List.eq_nil_or_concat (jn (xs.map fun x => (x, x + 1))) with z0 | ⟨r, q, z0⟩
  · rw [z0] at e
    exact .inl ⟨z0, e⟩
  · rw [List.concat_eq_append] at z0
    refine .inr ⟨r, q, z0, c1.2 q (by rw [z0]; simp), ?_⟩
    rw [z0, List.reverse_append, List.reverse_singleton, List.singleton_append, stepJ_cons] at e
    by_cases d : q.2 = x
    · rw [if_pos d] at e
      refine .inl ⟨d, ?_⟩
      rw [e, List.reverse_cons, List.reverse_reverse]
    · rw [if_neg d] at e
      refine .inr ⟨d, ?_⟩
      rw [e, List.reverse_cons, List.reverse_cons, List.reverse_reverse]
theorem txt_one {z : Str} {x : Int} {c : Nat} (h0 : 0 ≤ x) (h : atI z.cps.toList x = some c) (hl : x < (z.length : Int)) : txtF (sgn z) x (x + 1) = (⟨#[c]⟩ : Str) := by
  obtain ⟨n, rfl⟩ := Int.eq_ofNat_of_zero_le h0
  have hn : n < z.cps.toList.length := by
    have := My.len_tl z
    have : z.cps.toList.length = z.length := this
    omega
  rw [atI_nat (List.getElem?_eq_getElem hn)] at h
  have e : sgn z (n : Int) = c := by
    unfold sgn
    rw [show (n : Int).toNat = n from rfl, List.getElem?_eq_getElem hn]
    exact Option.some.inj h
  unfold txtF
  rw [show ((n : Int) + 1 - (n : Int)).toNat = 1 by omega]
  show (⟨([sgn z ((n : Int) + ((0 : Nat) : Int))]).toArray⟩ : Str) = _
  rw [show (n : Int) + ((0 : Nat) : Int) = (n : Int) by omega, e]
theorem partsF_app (f : Int → Nat) (A B : List (Int × Int)) : (partsF f (A ++ B)).map tuP = (partsF f A).map tuP ++ (partsF f B).map tuP := by
  unfold partsF
  rw [List.map_append, List.map_append]
abbrev Cs := Tu (Tu (List Sn × List Str × Option Str × Unit) × Option Str × Unit)
structure CaseOk (gone : Bool) (z : Cs) : Prop where
  span : ∀ s ∈ z.r.1.r.1, spanB s = true
  many : z.r.1.r.1.length ≤ 10
  mine : ∀ m ∈ z.r.1.r.2.1, mkB m = true
  when : ∀ m, z.r.1.r.2.2.1 = some m → mkB m = true
  mark : ∀ m, z.r.2.1 = some m → mkB m = true
  none : z.r.2.1 = none ↔ gone = true
theorem word_V {A : AskR} (ok : OkAsk A) (mk : Option Str) {n : Int} (h0 : 0 ≤ n) : wordA A mk n = wordV A.spans.l A.«unless».l A.when mk (placesT A.spans.l A.when mk n) := by
  rw [word_eq ok mk h0]
  cases mk <;> rfl
theorem size_ok {A : AskR} {mk : Option Str} {n : Int} (h : mk = none → n = 0) : sizeA A mk n = n := by
  unfold sizeA
  cases mk with
  | none => rw [h rfl]; split <;> rfl
  | some k =>
    rw [if_neg]
    show ¬ (if k ∈ A.«unless».l then Str.ofString "same" else if wholeA A k = true then Str.ofString "whole" else if (wantA A k n).length = 0 then Str.ofString "beyond" else Str.ofString "part") = Str.ofString "gone"
    split
    · decide
    · split
      · decide
      · split <;> decide
theorem out_due {A : AskR} (ok : OkAsk A) {mk : Option Str} {z : Str} (hz : z.length ≤ 100) {kn : List Int} (hp : kn.Pairwise (· < ·)) (hb : ∀ x ∈ kn, 0 ≤ x ∧ x < (z.length : Int)) (hx : ∀ x ∈ placesT A.spans.l A.when mk z.length, x ∈ kn) {s : List Pt} (hs : s = (partsF (sgn z) (jn (kn.map fun x => (x, x + 1)))).map tuP ∨ (wordA A mk z.length ∈ [Str.ofString "same", Str.ofString "beyond"] ∧ s = [])) :
    ∃ S, s = (partsF (sgn z) S).map tuP ∧ can S ∧ S.length ≤ 2000 ∧ outA (sgn z) S A mk z.length = if wordA A mk z.length ∈ [Str.ofString "whole", Str.ofString "part"] then (partsF (sgn z) (jn ((placesT A.spans.l A.when mk z.length).map fun x => (x, x + 1)))).map tuP else [] := by
  obtain ⟨c1, c2⟩ := rows_ok hp
  have lk : kn.length ≤ 100 := by
    have lx : ∀ (ys : List Int) (lo : Int), ys.Pairwise (· < ·) → (∀ y ∈ ys, lo ≤ y ∧ y < (z.length : Int)) → (ys.length : Int) ≤ max 0 ((z.length : Int) - lo) := fun ys => by
      induction ys with
      | nil => intro lo _ _; simp only [List.length_nil]; omega
      | cons y r ih =>
        intro lo hp hb
        obtain ⟨p1, p2⟩ := List.pairwise_cons.mp hp
        have b1 := hb y (List.mem_cons_self ..)
        have := ih (y + 1) p2 fun w hw => ⟨by have := p1 w hw; omega, (hb w (List.mem_cons_of_mem _ hw)).2⟩
        rw [List.length_cons]
        omega
    have := lx kn 0 hp hb
    omega
  have lj := jn_len (kn.map fun x => (x, x + 1))
  rw [List.length_map] at lj
  rcases hs with rfl | ⟨hw, rfl⟩
  · refine ⟨_, rfl, c1, by omega, ?_⟩
    unfold outA
    by_cases e : wordA A mk z.length ∈ [Str.ofString "whole", Str.ofString "part"]
    · obtain ⟨k, rfl⟩ := word_some e
      rw [if_pos e, if_pos e]
      dsimp only
      obtain ⟨w1, _⟩ := want_can ok k (n := (z.length : Int)) (by omega)
      have em : (meet (jn (kn.map fun x => (x, x + 1))) (wantA A k z.length)).map (·.2) = wantA A k z.length := by
        refine can_eq _ _ (meet_can c1 w1) w1 fun x => ?_
        rw [meet_cov c1 w1]
        refine ⟨fun h => h.2, fun h => ⟨(c2 x).mpr (hx x ?_), h⟩⟩
        rw [← rows_want (by omega) ok] at h
        exact ((rows_ok (places_lt _ _ _ _)).2 x).mp h
      rw [em, ← rows_want (by omega) ok]
    · rw [if_neg e, if_neg e]
  · refine ⟨[], rfl, ⟨List.Pairwise.nil, fun _ h => nomatch h⟩, by decide, ?_⟩
    have e : ¬ wordA A mk z.length ∈ [Str.ofString "whole", Str.ofString "part"] := by
      generalize wordA A mk z.length = w at hw
      simp only [List.mem_cons, List.not_mem_nil, or_false] at hw ⊢
      rcases hw with rfl | rfl <;> decide
    unfold outA
    rw [if_neg e, if_neg e]
end Ak
namespace My
open PySem PySem.Spec PyProof.Rows L2 TL
open Lx hiding ints_of paired_app paired_at Wd
open Lw Mo Ak
def topS (i : Nat) : Stmt := PySem.Challenge.pw_pagelodge_k27_answered.main.body.getD i (.Pass ⟨0, 0, 0, 0⟩)
abbrev s_is_whole : Stmt := topS 13
theorem sc_is_whole : FnScope ["thing"] ["thing"] (defScope s_is_whole) := ⟨rfl, rfl, rfl, by decide +kernel, rfl, by decide +kernel, by decide +kernel⟩
abbrev s_is_made_of : Stmt := topS 14
theorem sc_is_made_of : FnScope ["text", "signs", "least", "most", "sign"] ["text", "signs", "least", "most"] (defScope s_is_made_of) := ⟨rfl, rfl, rfl, by decide +kernel, rfl, by decide +kernel, by decide +kernel⟩
abbrev s_is_name : Stmt := topS 15
theorem sc_is_name : FnScope ["text"] ["text"] (defScope s_is_name) := ⟨rfl, rfl, rfl, by decide +kernel, rfl, by decide +kernel, by decide +kernel⟩
abbrev s_is_worth : Stmt := topS 16
theorem sc_is_worth : FnScope ["text"] ["text"] (defScope s_is_worth) := ⟨rfl, rfl, rfl, by decide +kernel, rfl, by decide +kernel, by decide +kernel⟩
abbrev s_is_path : Stmt := topS 17
theorem sc_is_path : FnScope ["text", "names", "name"] ["text"] (defScope s_is_path) := ⟨rfl, rfl, rfl, by decide +kernel, rfl, by decide +kernel, by decide +kernel⟩
abbrev s_is_figures : Stmt := topS 18
theorem sc_is_figures : FnScope ["text"] ["text"] (defScope s_is_figures) := ⟨rfl, rfl, rfl, by decide +kernel, rfl, by decide +kernel, by decide +kernel⟩
abbrev s_is_mark : Stmt := topS 19
theorem sc_is_mark : FnScope ["text"] ["text"] (defScope s_is_mark) := ⟨rfl, rfl, rfl, by decide +kernel, rfl, by decide +kernel, by decide +kernel⟩
abbrev s_is_strong : Stmt := topS 20
theorem sc_is_strong : FnScope ["mark"] ["mark"] (defScope s_is_strong) := ⟨rfl, rfl, rfl, by decide +kernel, rfl, by decide +kernel, by decide +kernel⟩
abbrev s_heads_row : Stmt := topS 21
theorem sc_heads_row : FnScope ["heads", "name", "worth"] ["heads"] (defScope s_heads_row) := ⟨rfl, rfl, rfl, by decide +kernel, rfl, by decide +kernel, by decide +kernel⟩
abbrev s_in_words : Stmt := topS 28
theorem sc_in_words : FnScope ["numbers", "truths", "words", "name", "number", "untold", "truth"] ["numbers", "truths"] (defScope s_in_words) := ⟨rfl, rfl, rfl, by decide +kernel, rfl, by decide +kernel, by decide +kernel⟩
abbrev s_read_wish : Stmt := topS 29
theorem sc_read_wish : FnScope ["text", "words", "wrong"] ["text"] (defScope s_read_wish) := ⟨rfl, rfl, rfl, by decide +kernel, rfl, by decide +kernel, by decide +kernel⟩
abbrev s_words_told : Stmt := topS 30
theorem sc_words_told : FnScope ["text", "piece"] ["text"] (defScope s_words_told) := ⟨rfl, rfl, rfl, by decide +kernel, rfl, by decide +kernel, by decide +kernel⟩
abbrev s_word_told : Stmt := topS 31
theorem sc_word_told : FnScope ["piece", "name", "blank", "figures"] ["piece"] (defScope s_word_told) := ⟨rfl, rfl, rfl, by decide +kernel, rfl, by decide +kernel, by decide +kernel⟩
abbrev s_first_wrong : Stmt := topS 32
theorem sc_first_wrong : FnScope ["words", "numbers", "truths", "at", "word"] ["words", "numbers", "truths"] (defScope s_first_wrong) := ⟨rfl, rfl, rfl, by decide +kernel, rfl, by decide +kernel, by decide +kernel⟩
abbrev s_suits_its_name : Stmt := topS 33
theorem sc_suits_its_name : FnScope ["word", "numbers", "truths", "name", "number"] ["word", "numbers", "truths"] (defScope s_suits_its_name) := ⟨rfl, rfl, rfl, by decide +kernel, rfl, by decide +kernel, by decide +kernel⟩
abbrev s_numbers_told : Stmt := topS 34
theorem sc_numbers_told : FnScope ["words", "name", "named", "number"] ["words", "name"] (defScope s_numbers_told) := ⟨rfl, rfl, rfl, by decide +kernel, rfl, by decide +kernel, by decide +kernel⟩
abbrev s_is_told : Stmt := topS 35
theorem sc_is_told : FnScope ["words", "name"] ["words", "name"] (defScope s_is_told) := ⟨rfl, rfl, rfl, by decide +kernel, rfl, by decide +kernel, by decide +kernel⟩
abbrev s_are_ends : Stmt := topS 37
theorem sc_are_ends : FnScope ["start", "stop"] ["start", "stop"] (defScope s_are_ends) := ⟨rfl, rfl, rfl, by decide +kernel, rfl, by decide +kernel, by decide +kernel⟩
abbrev s_is_span : Stmt := topS 38
theorem sc_is_span : FnScope ["thing", "start", "stop"] ["thing"] (defScope s_is_span) := ⟨rfl, rfl, rfl, by decide +kernel, rfl, by decide +kernel, by decide +kernel⟩
abbrev s_is_bound : Stmt := topS 39
theorem sc_is_bound : FnScope ["thing"] ["thing"] (defScope s_is_bound) := ⟨rfl, rfl, rfl, by decide +kernel, rfl, by decide +kernel, by decide +kernel⟩
abbrev s_stretches : Stmt := topS 40
theorem sc_stretches : FnScope ["spans", "size", "span"] ["spans", "size"] (defScope s_stretches) := ⟨rfl, rfl, rfl, by decide +kernel, rfl, by decide +kernel, by decide +kernel⟩
abbrev s_within : Stmt := topS 41
theorem sc_within : FnScope ["span", "size", "start", "stop"] ["span", "size"] (defScope s_within) := ⟨rfl, rfl, rfl, by decide +kernel, rfl, by decide +kernel, by decide +kernel⟩
abbrev s_merged : Stmt := topS 42
theorem sc_merged : FnScope ["pairs", "found", "start", "stop", "pair"] ["pairs"] (defScope s_merged) := ⟨rfl, rfl, rfl, by decide +kernel, rfl, by decide +kernel, by decide +kernel⟩
abbrev s_told_by : Stmt := topS 43
theorem sc_told_by : FnScope ["parts", "start", "signs"] ["parts"] (defScope s_told_by) := ⟨rfl, rfl, rfl, by decide +kernel, rfl, by decide +kernel, by decide +kernel⟩
abbrev s_meetings : Stmt := topS 44
theorem sc_meetings : FnScope ["ones", "others", "found", "at", "beside", "start", "stop"] ["ones", "others"] (defScope s_meetings) := ⟨rfl, rfl, rfl, by decide +kernel, rfl, by decide +kernel, by decide +kernel⟩
abbrev s_cut : Stmt := topS 45
theorem sc_cut : FnScope ["parts", "wanted", "found", "at", "start", "stop", "first", "signs"] ["parts", "wanted"] (defScope s_cut) := ⟨rfl, rfl, rfl, by decide +kernel, rfl, by decide +kernel, by decide +kernel⟩
abbrev s_wrong_in_ask : Stmt := topS 49
theorem sc_wrong_in_ask : FnScope ["path", "heads", "spans", "unless", "when", "name", "worth", "span", "mark"] ["path", "heads", "spans", "unless", "when"] (defScope s_wrong_in_ask) := ⟨rfl, rfl, rfl, by decide +kernel, rfl, by decide +kernel, by decide +kernel⟩
abbrev s_answered : Stmt := topS 51
theorem sc_answered : FnScope ["ask", "mark", "size", "parts", "age", "count", "rule", "turns", "tags", "ground", "word"] ["ask", "mark", "size", "parts", "age", "count", "rule", "turns", "tags", "ground"] (defScope s_answered) := ⟨rfl, rfl, rfl, by decide +kernel, rfl, by decide +kernel, by decide +kernel⟩
abbrev s_law_well : Stmt := topS 53
theorem sc_law_well : FnScope ["_law_cell"] ["_law_cell"] (defScope s_law_well) := ⟨rfl, rfl, rfl, by decide +kernel, rfl, by decide +kernel, by decide +kernel⟩
abbrev s_law_draw : Stmt := topS 54
theorem sc_law_draw : FnScope ["_law_well_here", "_law_many", "_law_found", "_law_low"] ["_law_well_here", "_law_many"] (defScope s_law_draw) := ⟨rfl, rfl, rfl, by decide +kernel, rfl, by decide +kernel, by decide +kernel⟩
abbrev s_law_text : Stmt := topS 55
theorem sc_law_text : FnScope ["_law_well_here", "_law_some", "_law_way", "_law_many", "_law_text_here", "_law_k"] ["_law_well_here"] (defScope s_law_text) := ⟨rfl, rfl, rfl, by decide +kernel, rfl, by decide +kernel, by decide +kernel⟩
abbrev s_law_span : Stmt := topS 56
theorem sc_law_span : FnScope ["_law_well_here", "_law_size", "_law_way", "_law_low", "_law_many"] ["_law_well_here", "_law_size"] (defScope s_law_span) := ⟨rfl, rfl, rfl, by decide +kernel, rfl, by decide +kernel, by decide +kernel⟩
abbrev s_law_mark : Stmt := topS 57
theorem sc_law_mark : FnScope ["_law_well_here"] ["_law_well_here"] (defScope s_law_mark) := ⟨rfl, rfl, rfl, by decide +kernel, rfl, by decide +kernel, by decide +kernel⟩
abbrev s_law_is_told : Stmt := topS 58
theorem sc_law_is_told : FnScope ["_law_span_here", "_law_place", "_law_size", "_law_low", "_law_high"] ["_law_span_here", "_law_place", "_law_size"] (defScope s_law_is_told) := ⟨rfl, rfl, rfl, by decide +kernel, rfl, by decide +kernel, by decide +kernel⟩
abbrev s_law_wants_all : Stmt := topS 59
theorem sc_law_wants_all : FnScope ["_law_case_here", "_law_mark_here", "_law_pieces", "_law_mine", "_law_other"] ["_law_case_here", "_law_mark_here"] (defScope s_law_wants_all) := ⟨rfl, rfl, rfl, by decide +kernel, rfl, by decide +kernel, by decide +kernel⟩
abbrev s_law_places : Stmt := topS 60
theorem sc_law_places : FnScope ["_law_case_here", "_law_mark_here", "_law_size", "_law_place", "_law_span_here"] ["_law_case_here", "_law_mark_here", "_law_size"] (defScope s_law_places) := ⟨rfl, rfl, rfl, by decide +kernel, rfl, by decide +kernel, by decide +kernel⟩
abbrev s_law_word : Stmt := topS 61
theorem sc_law_word : FnScope ["_law_case_here", "_law_mark_here", "_law_places_here"] ["_law_case_here", "_law_mark_here", "_law_places_here"] (defScope s_law_word) := ⟨rfl, rfl, rfl, by decide +kernel, rfl, by decide +kernel, by decide +kernel⟩
abbrev s_law_parts : Stmt := topS 62
theorem sc_law_parts : FnScope ["_law_text_here", "_law_places_here", "_law_found", "_law_place"] ["_law_text_here", "_law_places_here"] (defScope s_law_parts) := ⟨rfl, rfl, rfl, by decide +kernel, rfl, by decide +kernel, by decide +kernel⟩
abbrev s_law_known : Stmt := topS 63
theorem sc_law_known : FnScope ["_law_well_here", "_law_places_here", "_law_size", "_law_way", "_law_others", "_law_place"] ["_law_well_here", "_law_places_here", "_law_size"] (defScope s_law_known) := ⟨rfl, rfl, rfl, by decide +kernel, rfl, by decide +kernel, by decide +kernel⟩
abbrev s_law_plain : Stmt := topS 64
theorem sc_law_plain : FnScope ["_law_found", "_law_due", "_law_numbers", "_law_part", "_law_one"] ["_law_found", "_law_due"] (defScope s_law_plain) := ⟨rfl, rfl, rfl, by decide +kernel, rfl, by decide +kernel, by decide +kernel⟩
abbrev s_law_rest : Stmt := topS 65
theorem sc_law_rest : FnScope ["_law_found"] ["_law_found"] (defScope s_law_rest) := ⟨rfl, rfl, rfl, by decide +kernel, rfl, by decide +kernel, by decide +kernel⟩
abbrev s_law_case : Stmt := topS 66
theorem sc_law_case : FnScope ["_law_well_here", "_law_long", "_law_gone", "_law_pieces", "_law_mine", "_law_some", "_law_mark_here", "_law_other", "_law_k"] ["_law_well_here", "_law_long", "_law_gone"] (defScope s_law_case) := ⟨rfl, rfl, rfl, by decide +kernel, rfl, by decide +kernel, by decide +kernel⟩
abbrev s_law : Stmt := topS 67
theorem sc_law : FnScope ["_law_script", "_law_cell", "_law_well_here", "_law_gone", "_law_signs", "_law_long", "_law_case_here", "_law_mark_here", "_law_places_here", "_law_word_here", "_law_due", "_law_known_here", "_law_rows", "_law_numbers", "_law_links", "_law_ruled", "_law_made", "_law_told", "_law_found", "_law_bare"] ["_law_script"] (defScope s_law) := ⟨rfl, rfl, rfl, by decide +kernel, rfl, by decide +kernel, by decide +kernel⟩
abbrev s_NoWish_init : Stmt := inClass (topS 3) 0
theorem sc_NoWish_init : FnScope ["self", "at"] ["self", "at"] (defScope s_NoWish_init) := ⟨rfl, rfl, rfl, by decide +kernel, rfl, by decide +kernel, by decide +kernel⟩
abbrev s_NoAsk_init : Stmt := inClass (topS 4) 0
theorem sc_NoAsk_init : FnScope ["self", "why"] ["self", "why"] (defScope s_NoAsk_init) := ⟨rfl, rfl, rfl, by decide +kernel, rfl, by decide +kernel, by decide +kernel⟩
abbrev s_Rule_init : Stmt := inClass (topS 26) 0
theorem sc_Rule_init : FnScope ["self", "keep", "worn", "alone", "anew", "own", "common", "never", "strict"] ["self", "keep", "worn", "alone", "anew", "own", "common", "never", "strict"] (defScope s_Rule_init) := ⟨rfl, rfl, rfl, by decide +kernel, rfl, by decide +kernel, by decide +kernel⟩
abbrev s_Wish_init : Stmt := inClass (topS 27) 0
theorem sc_Wish_init : FnScope ["self", "atmost", "left", "worn", "anew", "kept", "firm"] ["self", "atmost", "left", "worn", "anew", "kept", "firm"] (defScope s_Wish_init) := ⟨rfl, rfl, rfl, by decide +kernel, rfl, by decide +kernel, by decide +kernel⟩
abbrev s_Wish_spelled : Stmt := inClass (topS 27) 1
theorem sc_Wish_spelled : FnScope ["self", "numbers", "truths"] ["self"] (defScope s_Wish_spelled) := ⟨rfl, rfl, rfl, by decide +kernel, rfl, by decide +kernel, by decide +kernel⟩
abbrev s_Ask_init : Stmt := inClass (topS 48) 0
theorem sc_Ask_init : FnScope ["self", "path", "heads", "spans", "unless", "when", "wish", "named", "wrong"] ["self", "path", "heads", "spans", "unless", "when", "wish"] (defScope s_Ask_init) := ⟨rfl, rfl, rfl, by decide +kernel, rfl, by decide +kernel, by decide +kernel⟩
abbrev s_Ask_told : Stmt := inClass (topS 48) 1
theorem sc_Ask_told : FnScope ["self"] ["self"] (defScope s_Ask_told) := ⟨rfl, rfl, rfl, by decide +kernel, rfl, by decide +kernel, by decide +kernel⟩
abbrev s_Ask_wants_whole : Stmt := inClass (topS 48) 2
theorem sc_Ask_wants_whole : FnScope ["self", "mark"] ["self", "mark"] (defScope s_Ask_wants_whole) := ⟨rfl, rfl, rfl, by decide +kernel, rfl, by decide +kernel, by decide +kernel⟩
abbrev s_Ask_wanted : Stmt := inClass (topS 48) 3
theorem sc_Ask_wanted : FnScope ["self", "mark", "size"] ["self", "mark", "size"] (defScope s_Ask_wanted) := ⟨rfl, rfl, rfl, by decide +kernel, rfl, by decide +kernel, by decide +kernel⟩
abbrev s_Ask_word_for : Stmt := inClass (topS 48) 4
theorem sc_Ask_word_for : FnScope ["self", "mark", "size"] ["self", "mark", "size"] (defScope s_Ask_word_for) := ⟨rfl, rfl, rfl, by decide +kernel, rfl, by decide +kernel, by decide +kernel⟩
abbrev s_Answer_init : Stmt := inClass (topS 50) 0
theorem sc_Answer_init : FnScope ["self", "word", "mark", "size", "parts", "age", "count", "rule", "turns", "tags", "ground", "start", "signs", "link"] ["self", "word", "mark", "size", "parts", "age", "count", "rule", "turns", "tags", "ground"] (defScope s_Answer_init) := ⟨rfl, rfl, rfl, by decide +kernel, rfl, by decide +kernel, by decide +kernel⟩
abbrev s_Answer_told : Stmt := inClass (topS 50) 1
theorem sc_Answer_told : FnScope ["self"] ["self"] (defScope s_Answer_told) := ⟨rfl, rfl, rfl, by decide +kernel, rfl, by decide +kernel, by decide +kernel⟩
structure Def (K : PySem.W.Frag) (mg : Str → Option Value) (x : Str) (st : Stmt) (ps : List Str) (f : Addr) (fd : FuncData) : Prop where
  F : Fun K x x st f fd
  b : Binds K fd ps []
  g : mg x = some (.ref f)
structure DefM (K : PySem.W.Frag) (x qual : Str) (st : Stmt) (ps : List Str) (f : Addr) (fd : FuncData) : Prop where
  F : Fun K x qual st f fd
  b : Binds K fd ps []
structure DefK (K : PySem.W.Frag) (x qual : Str) (st : Stmt) (f : Addr) (fd : FuncData) : Prop where
  F : Fun K x qual st f fd
structure DefG (K : PySem.W.Frag) (mg : Str → Option Value) (x qual : Str) (st : Stmt) (f : Addr) (fd : FuncData) : Prop where
  F : Fun K x qual st f fd
  g : mg x = some (.ref f)
structure Txt (K : PySem.W.Frag) (mg : Str → Option Value) where
  f_is_whole : Addr
  fd_is_whole : FuncData
  d_is_whole : Def K mg "is_whole" s_is_whole ["thing"] f_is_whole fd_is_whole
  f_is_made_of : Addr
  fd_is_made_of : FuncData
  d_is_made_of : Def K mg "is_made_of" s_is_made_of ["text", "signs", "least", "most"] f_is_made_of fd_is_made_of
  f_is_name : Addr
  fd_is_name : FuncData
  d_is_name : Def K mg "is_name" s_is_name ["text"] f_is_name fd_is_name
  f_is_worth : Addr
  fd_is_worth : FuncData
  d_is_worth : Def K mg "is_worth" s_is_worth ["text"] f_is_worth fd_is_worth
  f_is_path : Addr
  fd_is_path : FuncData
  d_is_path : Def K mg "is_path" s_is_path ["text"] f_is_path fd_is_path
  f_is_figures : Addr
  fd_is_figures : FuncData
  d_is_figures : Def K mg "is_figures" s_is_figures ["text"] f_is_figures fd_is_figures
  f_is_mark : Addr
  fd_is_mark : FuncData
  d_is_mark : Def K mg "is_mark" s_is_mark ["text"] f_is_mark fd_is_mark
  f_is_strong : Addr
  fd_is_strong : FuncData
  d_is_strong : Def K mg "is_strong" s_is_strong ["mark"] f_is_strong fd_is_strong
  f_heads_row : Addr
  fd_heads_row : FuncData
  d_heads_row : Def K mg "heads_row" s_heads_row ["heads"] f_heads_row fd_heads_row
  f_in_words : Addr
  fd_in_words : FuncData
  d_in_words : Def K mg "in_words" s_in_words ["numbers", "truths"] f_in_words fd_in_words
  f_read_wish : Addr
  fd_read_wish : FuncData
  d_read_wish : Def K mg "read_wish" s_read_wish ["text"] f_read_wish fd_read_wish
  f_words_told : Addr
  fd_words_told : FuncData
  d_words_told : Def K mg "words_told" s_words_told ["text"] f_words_told fd_words_told
  f_word_told : Addr
  fd_word_told : FuncData
  d_word_told : Def K mg "word_told" s_word_told ["piece"] f_word_told fd_word_told
  f_first_wrong : Addr
  fd_first_wrong : FuncData
  d_first_wrong : Def K mg "first_wrong" s_first_wrong ["words", "numbers", "truths"] f_first_wrong fd_first_wrong
  f_suits_its_name : Addr
  fd_suits_its_name : FuncData
  d_suits_its_name : Def K mg "suits_its_name" s_suits_its_name ["word", "numbers", "truths"] f_suits_its_name fd_suits_its_name
  f_numbers_told : Addr
  fd_numbers_told : FuncData
  d_numbers_told : Def K mg "numbers_told" s_numbers_told ["words", "name"] f_numbers_told fd_numbers_told
  f_is_told : Addr
  fd_is_told : FuncData
  d_is_told : Def K mg "is_told" s_is_told ["words", "name"] f_is_told fd_is_told
  f_are_ends : Addr
  fd_are_ends : FuncData
  d_are_ends : Def K mg "are_ends" s_are_ends ["start", "stop"] f_are_ends fd_are_ends
  f_is_span : Addr
  fd_is_span : FuncData
  d_is_span : Def K mg "is_span" s_is_span ["thing"] f_is_span fd_is_span
  f_is_bound : Addr
  fd_is_bound : FuncData
  d_is_bound : Def K mg "is_bound" s_is_bound ["thing"] f_is_bound fd_is_bound
  f_stretches : Addr
  fd_stretches : FuncData
  d_stretches : Def K mg "stretches" s_stretches ["spans", "size"] f_stretches fd_stretches
  f_within : Addr
  fd_within : FuncData
  d_within : Def K mg "within" s_within ["span", "size"] f_within fd_within
  f_merged : Addr
  fd_merged : FuncData
  d_merged : Def K mg "merged" s_merged ["pairs"] f_merged fd_merged
  f_told_by : Addr
  fd_told_by : FuncData
  d_told_by : Def K mg "told_by" s_told_by ["parts"] f_told_by fd_told_by
  f_meetings : Addr
  fd_meetings : FuncData
  d_meetings : Def K mg "meetings" s_meetings ["ones", "others"] f_meetings fd_meetings
  f_cut : Addr
  fd_cut : FuncData
  d_cut : Def K mg "cut" s_cut ["parts", "wanted"] f_cut fd_cut
  f_wrong_in_ask : Addr
  fd_wrong_in_ask : FuncData
  d_wrong_in_ask : Def K mg "wrong_in_ask" s_wrong_in_ask ["path", "heads", "spans", "unless", "when"] f_wrong_in_ask fd_wrong_in_ask
  f_answered : Addr
  fd_answered : FuncData
  d_answered : DefG K mg "answered" "answered" s_answered  f_answered fd_answered
  f_law_well : Addr
  fd_law_well : FuncData
  d_law_well : Def K mg "_law_well" s_law_well ["_law_cell"] f_law_well fd_law_well
  f_law_draw : Addr
  fd_law_draw : FuncData
  d_law_draw : Def K mg "_law_draw" s_law_draw ["_law_well_here", "_law_many"] f_law_draw fd_law_draw
  f_law_text : Addr
  fd_law_text : FuncData
  d_law_text : Def K mg "_law_text" s_law_text ["_law_well_here"] f_law_text fd_law_text
  f_law_span : Addr
  fd_law_span : FuncData
  d_law_span : Def K mg "_law_span" s_law_span ["_law_well_here", "_law_size"] f_law_span fd_law_span
  f_law_mark : Addr
  fd_law_mark : FuncData
  d_law_mark : Def K mg "_law_mark" s_law_mark ["_law_well_here"] f_law_mark fd_law_mark
  f_law_is_told : Addr
  fd_law_is_told : FuncData
  d_law_is_told : Def K mg "_law_is_told" s_law_is_told ["_law_span_here", "_law_place", "_law_size"] f_law_is_told fd_law_is_told
  f_law_wants_all : Addr
  fd_law_wants_all : FuncData
  d_law_wants_all : Def K mg "_law_wants_all" s_law_wants_all ["_law_case_here", "_law_mark_here"] f_law_wants_all fd_law_wants_all
  f_law_places : Addr
  fd_law_places : FuncData
  d_law_places : Def K mg "_law_places" s_law_places ["_law_case_here", "_law_mark_here", "_law_size"] f_law_places fd_law_places
  f_law_word : Addr
  fd_law_word : FuncData
  d_law_word : Def K mg "_law_word" s_law_word ["_law_case_here", "_law_mark_here", "_law_places_here"] f_law_word fd_law_word
  f_law_parts : Addr
  fd_law_parts : FuncData
  d_law_parts : Def K mg "_law_parts" s_law_parts ["_law_text_here", "_law_places_here"] f_law_parts fd_law_parts
  f_law_known : Addr
  fd_law_known : FuncData
  d_law_known : Def K mg "_law_known" s_law_known ["_law_well_here", "_law_places_here", "_law_size"] f_law_known fd_law_known
  f_law_plain : Addr
  fd_law_plain : FuncData
  d_law_plain : Def K mg "_law_plain" s_law_plain ["_law_found", "_law_due"] f_law_plain fd_law_plain
  f_law_rest : Addr
  fd_law_rest : FuncData
  d_law_rest : Def K mg "_law_rest" s_law_rest ["_law_found"] f_law_rest fd_law_rest
  f_law_case : Addr
  fd_law_case : FuncData
  d_law_case : Def K mg "_law_case" s_law_case ["_law_well_here", "_law_long", "_law_gone"] f_law_case fd_law_case
  f_law : Addr
  fd_law : FuncData
  d_law : Def K mg "law" s_law ["_law_script"] f_law fd_law
  f_NoWish_init : Addr
  fd_NoWish_init : FuncData
  d_NoWish_init : DefM K "__init__" "NoWish.__init__" s_NoWish_init ["self", "at"] f_NoWish_init fd_NoWish_init
  f_NoAsk_init : Addr
  fd_NoAsk_init : FuncData
  d_NoAsk_init : DefM K "__init__" "NoAsk.__init__" s_NoAsk_init ["self", "why"] f_NoAsk_init fd_NoAsk_init
  f_Rule_init : Addr
  fd_Rule_init : FuncData
  d_Rule_init : DefK K "__init__" "Rule.__init__" s_Rule_init  f_Rule_init fd_Rule_init
  f_Wish_init : Addr
  fd_Wish_init : FuncData
  d_Wish_init : DefK K "__init__" "Wish.__init__" s_Wish_init  f_Wish_init fd_Wish_init
  f_Wish_spelled : Addr
  fd_Wish_spelled : FuncData
  d_Wish_spelled : DefM K "spelled" "Wish.spelled" s_Wish_spelled ["self"] f_Wish_spelled fd_Wish_spelled
  f_Ask_init : Addr
  fd_Ask_init : FuncData
  d_Ask_init : DefK K "__init__" "Ask.__init__" s_Ask_init  f_Ask_init fd_Ask_init
  f_Ask_told : Addr
  fd_Ask_told : FuncData
  d_Ask_told : DefM K "told" "Ask.told" s_Ask_told ["self"] f_Ask_told fd_Ask_told
  f_Ask_wants_whole : Addr
  fd_Ask_wants_whole : FuncData
  d_Ask_wants_whole : DefM K "wants_whole" "Ask.wants_whole" s_Ask_wants_whole ["self", "mark"] f_Ask_wants_whole fd_Ask_wants_whole
  f_Ask_wanted : Addr
  fd_Ask_wanted : FuncData
  d_Ask_wanted : DefM K "wanted" "Ask.wanted" s_Ask_wanted ["self", "mark", "size"] f_Ask_wanted fd_Ask_wanted
  f_Ask_word_for : Addr
  fd_Ask_word_for : FuncData
  d_Ask_word_for : DefM K "word_for" "Ask.word_for" s_Ask_word_for ["self", "mark", "size"] f_Ask_word_for fd_Ask_word_for
  f_Answer_init : Addr
  fd_Answer_init : FuncData
  d_Answer_init : DefK K "__init__" "Answer.__init__" s_Answer_init  f_Answer_init fd_Answer_init
  f_Answer_told : Addr
  fd_Answer_told : FuncData
  d_Answer_told : DefM K "told" "Answer.told" s_Answer_told ["self"] f_Answer_told fd_Answer_told
  C_NoAsk : Addr
  g_NoAsk : mg "NoAsk" = some (.ref C_NoAsk)
  C_NoWish : Addr
  g_NoWish : mg "NoWish" = some (.ref C_NoWish)
  C_PageError : Addr
  g_PageError : mg "PageError" = some (.ref C_PageError)
  ox_NoAsk : OexC K C_NoAsk
  na_NoAsk : PySem.W.findIn K (.ref C_NoAsk) "why" = some none
  ii_NoAsk : PySem.W.findIn K (.ref C_NoAsk) "__init__" = some (some (.ref f_NoAsk_init))
  ti_NoAsk : PySem.W.typeIn K (.ref f_NoAsk_init) = some (.type "function")
  ec_NoAsk : ExcC K C_NoAsk
  xf_NoAsk : XfC K C_NoAsk
  em_NoAsk : PySem.W.exmOne K (.ref C_NoAsk) (.ref C_NoAsk) = some true
  ox_NoWish : OexC K C_NoWish
  na_NoWish : PySem.W.findIn K (.ref C_NoWish) "at" = some none
  ii_NoWish : PySem.W.findIn K (.ref C_NoWish) "__init__" = some (some (.ref f_NoWish_init))
  ti_NoWish : PySem.W.typeIn K (.ref f_NoWish_init) = some (.type "function")
  ec_NoWish : ExcC K C_NoWish
  xf_NoWish : XfC K C_NoWish
  em_NoWish : PySem.W.exmOne K (.ref C_NoWish) (.ref C_NoWish) = some true
  C_Wish : Addr
  g_Wish : mg "Wish" = some (.ref C_Wish)
  cl_Wish : Cls K C_Wish
  mk_Wish : Mk K C_Wish f_Wish_init
  n_Wish_atmost : NoAttr K C_Wish "atmost"
  n_Wish_left : NoAttr K C_Wish "left"
  n_Wish_worn : NoAttr K C_Wish "worn"
  n_Wish_anew : NoAttr K C_Wish "anew"
  n_Wish_kept : NoAttr K C_Wish "kept"
  n_Wish_firm : NoAttr K C_Wish "firm"
  me_Wish_spelled : Meth K C_Wish "spelled" f_Wish_spelled
  C_Ask : Addr
  g_Ask : mg "Ask" = some (.ref C_Ask)
  cl_Ask : Cls K C_Ask
  mk_Ask : Mk K C_Ask f_Ask_init
  n_Ask_path : NoAttr K C_Ask "path"
  n_Ask_heads : NoAttr K C_Ask "heads"
  n_Ask_spans : NoAttr K C_Ask "spans"
  n_Ask_unless : NoAttr K C_Ask "unless"
  n_Ask_when : NoAttr K C_Ask "when"
  n_Ask_wish : NoAttr K C_Ask "wish"
  me_Ask_word_for : Meth K C_Ask "word_for" f_Ask_word_for
  me_Ask_wanted : Meth K C_Ask "wanted" f_Ask_wanted
  me_Ask_told : Meth K C_Ask "told" f_Ask_told
  me_Ask_wants_whole : Meth K C_Ask "wants_whole" f_Ask_wants_whole
  C_Answer : Addr
  g_Answer : mg "Answer" = some (.ref C_Answer)
  cl_Answer : Cls K C_Answer
  mk_Answer : Mk K C_Answer f_Answer_init
  n_Answer_word : NoAttr K C_Answer "word"
  n_Answer_mark : NoAttr K C_Answer "mark"
  n_Answer_size : NoAttr K C_Answer "size"
  n_Answer_parts : NoAttr K C_Answer "parts"
  n_Answer_age : NoAttr K C_Answer "age"
  n_Answer_count : NoAttr K C_Answer "count"
  n_Answer_rule : NoAttr K C_Answer "rule"
  n_Answer_turns : NoAttr K C_Answer "turns"
  n_Answer_tags : NoAttr K C_Answer "tags"
  n_Answer_ground : NoAttr K C_Answer "ground"
  ha_Answer : PySem.W.findIn K (.ref C_Answer) "__class__" = some (some (.builtin "object.__class__"))
  hm_Answer : PySem.W.mroIn K C_Answer (.type "object") = some true
  me_Answer_told : Meth K C_Answer "told" f_Answer_told
  C_Rule : Addr
  g_Rule : mg "Rule" = some (.ref C_Rule)
  cl_Rule : Cls K C_Rule
  mk_Rule : Mk K C_Rule f_Rule_init
  n_Rule_keep : NoAttr K C_Rule "keep"
  n_Rule_worn : NoAttr K C_Rule "worn"
  n_Rule_alone : NoAttr K C_Rule "alone"
  n_Rule_anew : NoAttr K C_Rule "anew"
  n_Rule_own : NoAttr K C_Rule "own"
  n_Rule_common : NoAttr K C_Rule "common"
  n_Rule_never : NoAttr K C_Rule "never"
  n_Rule_strict : NoAttr K C_Rule "strict"
  hn_cls : PySem.W.specialIn K (.builtin "object.__class__") "__get__" = some (some (.builtin "getset_descriptor.__get__"))
  htk_cls : PySem.W.takesIn K (.builtin "object.__class__") = some true
  ki_Answer_Answer : PySem.W.kitOne K (.ref C_Answer) (.ref C_Answer) = some true
  e_answered_turns : Addr
  eq_answered_turns : ∀ H : Hp, SqT K H e_answered_turns []
  e_answered_tags : Addr
  eq_answered_tags : ∀ H : Hp, SqT K H e_answered_tags []
  e_answered_ground : Addr
  eq_answered_ground : ∀ H : Hp, SqT K H e_answered_ground []
  e_Ask_init_spans : Addr
  eq_Ask_init_spans : ∀ H : Hp, SqT K H e_Ask_init_spans []
  e_Ask_init_unless : Addr
  eq_Ask_init_unless : ∀ H : Hp, SqT K H e_Ask_init_unless []
  e_Answer_init_parts : Addr
  eq_Answer_init_parts : ∀ H : Hp, SqT K H e_Answer_init_parts []
  e_Answer_init_turns : Addr
  eq_Answer_init_turns : ∀ H : Hp, SqT K H e_Answer_init_turns []
  e_Answer_init_tags : Addr
  eq_Answer_init_tags : ∀ H : Hp, SqT K H e_Answer_init_tags []
  e_Answer_init_ground : Addr
  eq_Answer_init_ground : ∀ H : Hp, SqT K H e_Answer_init_ground []
  kb_0 : ∃ gg, KBn K fd_Wish_init ["self", "atmost", "left", "worn", "anew", "kept", "firm"] 1 ["atmost", "left", "worn", "anew", "kept", "firm"] gg (fun vs zs => vs ++ pickKw [.inr 0, .inr 1, .inr 2, .inr 3, .inr 4, .inr 5] (([] : List (Str × V)).map (·.2)) zs)
  kb_1 : ∃ gg, KBn K fd_Answer_init ["self", "word", "mark", "size", "parts", "age", "count", "rule", "turns", "tags", "ground"] 2 ["mark", "size", "parts", "age", "count", "rule", "turns", "tags", "ground"] gg (fun vs zs => vs ++ pickKw [.inr 0, .inr 1, .inr 2, .inr 3, .inr 4, .inr 5, .inr 6, .inr 7, .inr 8] (([] : List (Str × V)).map (·.2)) zs)
  kb_2 : ∃ gg, KBn K fd_Rule_init ["self", "keep", "worn", "alone", "anew", "own", "common", "never", "strict"] 1 ["keep", "own"] gg (fun vs zs => vs ++ pickKw [.inr 0, .inl 0, .inl 1, .inl 2, .inr 1, .inl 3, .inl 4, .inl 5] (([("worn", .int 0), ("alone", .int 0), ("anew", .bl false), ("common", .bl false), ("never", .bl false), ("strict", .bl false)] : List (Str × V)).map (·.2)) zs)
  kb_3 : ∃ gg, KBn K fd_Ask_init ["self", "path", "heads", "spans", "unless", "when", "wish"] 2 ["when", "spans", "unless"] gg (fun vs zs => vs ++ pickKw [.inl 0, .inr 1, .inr 2, .inr 0, .inl 1] (([("heads", .non), ("wish", .str "")] : List (Str × V)).map (·.2)) zs)
  kb_4 : ∃ gg, KBn K fd_answered ["ask", "mark", "size", "parts", "age", "count", "rule", "turns", "tags", "ground"] 4 ["ground", "tags", "turns", "rule", "count", "age"] gg (fun vs zs => vs ++ pickKw [.inr 5, .inr 4, .inr 3, .inr 2, .inr 1, .inr 0] (([] : List (Str × V)).map (·.2)) zs)
  kb_5 : ∃ ds, Vals (([("age", .int 0), ("count", .int 0), ("rule", .non), ("turns", .ref e_answered_turns), ("tags", .ref e_answered_tags), ("ground", .ref e_answered_ground)] : List (Str × V)).map (·.2)) ds ∧ Binds K fd_answered ["ask", "mark", "size", "parts", "age", "count", "rule", "turns", "tags", "ground"] ds
  kb_6 : ∃ ds, Vals (([("keep", .int 0), ("worn", .int 0), ("alone", .int 0), ("anew", .bl false), ("own", .bl false), ("common", .bl false), ("never", .bl false), ("strict", .bl false)] : List (Str × V)).map (·.2)) ds ∧ Binds K fd_Rule_init ["self", "keep", "worn", "alone", "anew", "own", "common", "never", "strict"] ds
  t_LETTERS : Tok
  g_LETTERS : mg "LETTERS" = some (.str "abcdefghijklmnopqrstuvwxyz" t_LETTERS)
  t_FIGURES : Tok
  g_FIGURES : mg "FIGURES" = some (.str "0123456789" t_FIGURES)
  t_WORTH_SIGNS : Tok
  g_WORTH_SIGNS : mg "WORTH_SIGNS" = some (.str "abcdefghijklmnopqrstuvwxyz0123456789-" t_WORTH_SIGNS)
  t_LONGEST_NAME : Tok
  g_LONGEST_NAME : mg "LONGEST_NAME" = some (.int 8 t_LONGEST_NAME)
  t_LONGEST_WORTH : Tok
  g_LONGEST_WORTH : mg "LONGEST_WORTH" = some (.int 12 t_LONGEST_WORTH)
  t_MOST_NAMES : Tok
  g_MOST_NAMES : mg "MOST_NAMES" = some (.int 4 t_MOST_NAMES)
  t_MOST_FIGURES : Tok
  g_MOST_FIGURES : mg "MOST_FIGURES" = some (.int 60 t_MOST_FIGURES)
  a_WISH_NUMBERS : Addr
  g_WISH_NUMBERS : mg "WISH_NUMBERS" = some (.ref a_WISH_NUMBERS)
  q_WISH_NUMBERS : ∀ H : Hp, SqT K H a_WISH_NUMBERS ([.str "atmost", .str "left", .str "worn"] : List V)
  a_WISH_TRUTHS : Addr
  g_WISH_TRUTHS : mg "WISH_TRUTHS" = some (.ref a_WISH_TRUTHS)
  q_WISH_TRUTHS : ∀ H : Hp, SqT K H a_WISH_TRUTHS ([.str "anew", .str "kept", .str "firm"] : List V)
  a_BEARS_PARTS : Addr
  g_BEARS_PARTS : mg "BEARS_PARTS" = some (.ref a_BEARS_PARTS)
  q_BEARS_PARTS : ∀ H : Hp, SqT K H a_BEARS_PARTS ([.str "whole", .str "part"] : List V)
  m_all : mg "all" = none
  m_any : mg "any" = none
  m_bool : mg "bool" = none
  m_enumerate : mg "enumerate" = none
  m_int : mg "int" = none
  m_isinstance : mg "isinstance" = none
  m_len : mg "len" = none
  m_list : mg "list" = none
  m_max : mg "max" = none
  m_min : mg "min" = none
  m_range : mg "range" = none
  m_sorted : mg "sorted" = none
  m_str : mg "str" = none
  m_tuple : mg "tuple" = none
section
variable {K : PySem.W.Frag} {mg : Str → Option Value}
abbrev F_Rule (T : Txt K mg) : Rfs ((((((((Unit × Int) × Int) × Int) × Bool) × Bool) × Bool) × Bool) × Bool) := (rfN (rfN (rfN (rfN (rfN (rfN (rfN (rfN rf0 "keep" rI) "worn" rI) "alone" rI) "anew" rB) "own" rB) "common" rB) "never" rB) "strict" rB)
abbrev to_Rule (r : RuleR) : ((((((((Unit × Int) × Int) × Int) × Bool) × Bool) × Bool) × Bool) × Bool) := (((((((((), r.«keep»), r.«worn»), r.«alone»), r.«anew»), r.«own»), r.«common»), r.«never»), r.«strict»)
abbrev of_Rule (s : ((((((((Unit × Int) × Int) × Int) × Bool) × Bool) × Bool) × Bool) × Bool)) : RuleR := ⟨s.1.1.1.1.1.1.1.2, s.1.1.1.1.1.1.2, s.1.1.1.1.1.2, s.1.1.1.1.2, s.1.1.1.2, s.1.1.2, s.1.2, s.2⟩
abbrev r_Rule (T : Txt K mg) : Rp RuleR := rCl T.C_Rule (F_Rule T) to_Rule
theorem do_Rule (T : Txt K mg) : ∀ J I v a, (r_Rule T).top J I v a → ∃ p dx fs, v = .ref p ∧ J p = some (.ins T.C_Rule dx fs) := fun J I v a ⟨p, dx, fs, e, h, _⟩ => ⟨p, dx, fs, e, h⟩
theorem fld_Rule_keep (T : Txt K mg) : FldR K (r_Rule T) "keep" rI (fun a => a.«keep») := fldCl T.cl_Rule T.n_Rule_keep (fat_init (fat_init (fat_init (fat_init (fat_init (fat_init (fat_init (fat_last nin0))))))))
theorem fld_Rule_worn (T : Txt K mg) : FldR K (r_Rule T) "worn" rI (fun a => a.«worn») := fldCl T.cl_Rule T.n_Rule_worn (fat_init (fat_init (fat_init (fat_init (fat_init (fat_init (fat_last (ninN nin0))))))))
theorem fld_Rule_alone (T : Txt K mg) : FldR K (r_Rule T) "alone" rI (fun a => a.«alone») := fldCl T.cl_Rule T.n_Rule_alone (fat_init (fat_init (fat_init (fat_init (fat_init (fat_last (ninN (ninN nin0))))))))
theorem fld_Rule_anew (T : Txt K mg) : FldR K (r_Rule T) "anew" rB (fun a => a.«anew») := fldCl T.cl_Rule T.n_Rule_anew (fat_init (fat_init (fat_init (fat_init (fat_last (ninN (ninN (ninN nin0))))))))
theorem fld_Rule_own (T : Txt K mg) : FldR K (r_Rule T) "own" rB (fun a => a.«own») := fldCl T.cl_Rule T.n_Rule_own (fat_init (fat_init (fat_init (fat_last (ninN (ninN (ninN (ninN nin0))))))))
theorem fld_Rule_common (T : Txt K mg) : FldR K (r_Rule T) "common" rB (fun a => a.«common») := fldCl T.cl_Rule T.n_Rule_common (fat_init (fat_init (fat_last (ninN (ninN (ninN (ninN (ninN nin0))))))))
theorem fld_Rule_never (T : Txt K mg) : FldR K (r_Rule T) "never" rB (fun a => a.«never») := fldCl T.cl_Rule T.n_Rule_never (fat_init (fat_last (ninN (ninN (ninN (ninN (ninN (ninN nin0))))))))
theorem fld_Rule_strict (T : Txt K mg) : FldR K (r_Rule T) "strict" rB (fun a => a.«strict») := fldCl T.cl_Rule T.n_Rule_strict (fat_last (ninN (ninN (ninN (ninN (ninN (ninN (ninN nin0))))))))
end
section
variable {K : PySem.W.Frag} {mg : Str → Option Value}
abbrev F_Wish (T : Txt K mg) : Rfs ((((((Unit × (Option Int)) × Int) × Int) × Bool) × Bool) × Bool) := (rfN (rfN (rfN (rfN (rfN (rfN rf0 "atmost" (rO rI)) "left" rI) "worn" rI) "anew" rB) "kept" rB) "firm" rB)
abbrev to_Wish (r : WishR) : ((((((Unit × (Option Int)) × Int) × Int) × Bool) × Bool) × Bool) := (((((((), r.«atmost»), r.«left»), r.«worn»), r.«anew»), r.«kept»), r.«firm»)
abbrev of_Wish (s : ((((((Unit × (Option Int)) × Int) × Int) × Bool) × Bool) × Bool)) : WishR := ⟨s.1.1.1.1.1.2, s.1.1.1.1.2, s.1.1.1.2, s.1.1.2, s.1.2, s.2⟩
abbrev r_Wish (T : Txt K mg) : Rp WishR := rCl T.C_Wish (F_Wish T) to_Wish
theorem do_Wish (T : Txt K mg) : ∀ J I v a, (r_Wish T).top J I v a → ∃ p dx fs, v = .ref p ∧ J p = some (.ins T.C_Wish dx fs) := fun J I v a ⟨p, dx, fs, e, h, _⟩ => ⟨p, dx, fs, e, h⟩
theorem fld_Wish_atmost (T : Txt K mg) : FldR K (r_Wish T) "atmost" (rO rI) (fun a => a.«atmost») := fldCl T.cl_Wish T.n_Wish_atmost (fat_init (fat_init (fat_init (fat_init (fat_init (fat_last nin0))))))
theorem fld_Wish_left (T : Txt K mg) : FldR K (r_Wish T) "left" rI (fun a => a.«left») := fldCl T.cl_Wish T.n_Wish_left (fat_init (fat_init (fat_init (fat_init (fat_last (ninN nin0))))))
theorem fld_Wish_worn (T : Txt K mg) : FldR K (r_Wish T) "worn" rI (fun a => a.«worn») := fldCl T.cl_Wish T.n_Wish_worn (fat_init (fat_init (fat_init (fat_last (ninN (ninN nin0))))))
theorem fld_Wish_anew (T : Txt K mg) : FldR K (r_Wish T) "anew" rB (fun a => a.«anew») := fldCl T.cl_Wish T.n_Wish_anew (fat_init (fat_init (fat_last (ninN (ninN (ninN nin0))))))
theorem fld_Wish_kept (T : Txt K mg) : FldR K (r_Wish T) "kept" rB (fun a => a.«kept») := fldCl T.cl_Wish T.n_Wish_kept (fat_init (fat_last (ninN (ninN (ninN (ninN nin0))))))
theorem fld_Wish_firm (T : Txt K mg) : FldR K (r_Wish T) "firm" rB (fun a => a.«firm») := fldCl T.cl_Wish T.n_Wish_firm (fat_last (ninN (ninN (ninN (ninN (ninN nin0))))))
theorem ndo_Wish_spelled (T : Txt K mg) : Ndo (r_Wish T) T.C_Wish "spelled" := ndoCl (ninN (ninN (ninN (ninN (ninN (ninN nin0))))))
end
section
variable {K : PySem.W.Frag} {mg : Str → Option Value}
abbrev F_Ask (T : Txt K mg) : Rfs ((((((Unit × Str) × (Tv (Tu (Str × Str × Unit)))) × (Tv (Tu ((Option Int) × (Option Int) × Unit)))) × (Tv Str)) × (Option Str)) × WishR) := (rfN (rfN (rfN (rfN (rfN (rfN rf0 "path" rS) "heads" (rT K (rTu K (rsC rS (rsC rS rs0))))) "spans" (rT K (rTu K (rsC (rO rI) (rsC (rO rI) rs0))))) "unless" (rT K rS)) "when" (rO rS)) "wish" (r_Wish T))
abbrev to_Ask (r : AskR) : ((((((Unit × Str) × (Tv (Tu (Str × Str × Unit)))) × (Tv (Tu ((Option Int) × (Option Int) × Unit)))) × (Tv Str)) × (Option Str)) × WishR) := (((((((), r.«path»), r.«heads»), r.«spans»), r.«unless»), r.«when»), r.«wish»)
abbrev of_Ask (s : ((((((Unit × Str) × (Tv (Tu (Str × Str × Unit)))) × (Tv (Tu ((Option Int) × (Option Int) × Unit)))) × (Tv Str)) × (Option Str)) × WishR)) : AskR := ⟨s.1.1.1.1.1.2, s.1.1.1.1.2, s.1.1.1.2, s.1.1.2, s.1.2, s.2⟩
abbrev r_Ask (T : Txt K mg) : Rp AskR := rCl T.C_Ask (F_Ask T) to_Ask
theorem do_Ask (T : Txt K mg) : ∀ J I v a, (r_Ask T).top J I v a → ∃ p dx fs, v = .ref p ∧ J p = some (.ins T.C_Ask dx fs) := fun J I v a ⟨p, dx, fs, e, h, _⟩ => ⟨p, dx, fs, e, h⟩
theorem fld_Ask_path (T : Txt K mg) : FldR K (r_Ask T) "path" rS (fun a => a.«path») := fldCl T.cl_Ask T.n_Ask_path (fat_init (fat_init (fat_init (fat_init (fat_init (fat_last nin0))))))
theorem fld_Ask_heads (T : Txt K mg) : FldR K (r_Ask T) "heads" (rT K (rTu K (rsC rS (rsC rS rs0)))) (fun a => a.«heads») := fldCl T.cl_Ask T.n_Ask_heads (fat_init (fat_init (fat_init (fat_init (fat_last (ninN nin0))))))
theorem fld_Ask_spans (T : Txt K mg) : FldR K (r_Ask T) "spans" (rT K (rTu K (rsC (rO rI) (rsC (rO rI) rs0)))) (fun a => a.«spans») := fldCl T.cl_Ask T.n_Ask_spans (fat_init (fat_init (fat_init (fat_last (ninN (ninN nin0))))))
theorem fld_Ask_unless (T : Txt K mg) : FldR K (r_Ask T) "unless" (rT K rS) (fun a => a.«unless») := fldCl T.cl_Ask T.n_Ask_unless (fat_init (fat_init (fat_last (ninN (ninN (ninN nin0))))))
theorem fld_Ask_when (T : Txt K mg) : FldR K (r_Ask T) "when" (rO rS) (fun a => a.«when») := fldCl T.cl_Ask T.n_Ask_when (fat_init (fat_last (ninN (ninN (ninN (ninN nin0))))))
theorem fld_Ask_wish (T : Txt K mg) : FldR K (r_Ask T) "wish" (r_Wish T) (fun a => a.«wish») := fldCl T.cl_Ask T.n_Ask_wish (fat_last (ninN (ninN (ninN (ninN (ninN nin0))))))
theorem ndo_Ask_word_for (T : Txt K mg) : Ndo (r_Ask T) T.C_Ask "word_for" := ndoCl (ninN (ninN (ninN (ninN (ninN (ninN nin0))))))
theorem ndo_Ask_wanted (T : Txt K mg) : Ndo (r_Ask T) T.C_Ask "wanted" := ndoCl (ninN (ninN (ninN (ninN (ninN (ninN nin0))))))
theorem ndo_Ask_told (T : Txt K mg) : Ndo (r_Ask T) T.C_Ask "told" := ndoCl (ninN (ninN (ninN (ninN (ninN (ninN nin0))))))
theorem ndo_Ask_wants_whole (T : Txt K mg) : Ndo (r_Ask T) T.C_Ask "wants_whole" := ndoCl (ninN (ninN (ninN (ninN (ninN (ninN nin0))))))
end
section
variable {K : PySem.W.Frag} {mg : Str → Option Value}
abbrev F_Answer (T : Txt K mg) : Rfs ((((((((((Unit × Str) × (Option Str)) × Int) × (Tv (Tu (Int × Str × Unit)))) × Int) × Int) × RuleR) × (Tv Str)) × (Tv Str)) × (Tv (Tu (Int × Int × Int × Unit)))) := (rfN (rfN (rfN (rfN (rfN (rfN (rfN (rfN (rfN (rfN rf0 "word" rS) "mark" (rO rS)) "size" rI) "parts" (rT K (rTu K (rsC rI (rsC rS rs0))))) "age" rI) "count" rI) "rule" (r_Rule T)) "turns" (rT K rS)) "tags" (rT K rS)) "ground" (rT K (rTu K (rsC rI (rsC rI (rsC rI rs0))))))
abbrev to_Answer (r : AnswerR) : ((((((((((Unit × Str) × (Option Str)) × Int) × (Tv (Tu (Int × Str × Unit)))) × Int) × Int) × RuleR) × (Tv Str)) × (Tv Str)) × (Tv (Tu (Int × Int × Int × Unit)))) := (((((((((((), r.«word»), r.«mark»), r.«size»), r.«parts»), r.«age»), r.«count»), r.«rule»), r.«turns»), r.«tags»), r.«ground»)
abbrev of_Answer (s : ((((((((((Unit × Str) × (Option Str)) × Int) × (Tv (Tu (Int × Str × Unit)))) × Int) × Int) × RuleR) × (Tv Str)) × (Tv Str)) × (Tv (Tu (Int × Int × Int × Unit))))) : AnswerR := ⟨s.1.1.1.1.1.1.1.1.1.2, s.1.1.1.1.1.1.1.1.2, s.1.1.1.1.1.1.1.2, s.1.1.1.1.1.1.2, s.1.1.1.1.1.2, s.1.1.1.1.2, s.1.1.1.2, s.1.1.2, s.1.2, s.2⟩
abbrev r_Answer (T : Txt K mg) : Rp AnswerR := rCl T.C_Answer (F_Answer T) to_Answer
theorem do_Answer (T : Txt K mg) : ∀ J I v a, (r_Answer T).top J I v a → ∃ p dx fs, v = .ref p ∧ J p = some (.ins T.C_Answer dx fs) := fun J I v a ⟨p, dx, fs, e, h, _⟩ => ⟨p, dx, fs, e, h⟩
theorem fld_Answer_word (T : Txt K mg) : FldR K (r_Answer T) "word" rS (fun a => a.«word») := fldCl T.cl_Answer T.n_Answer_word (fat_init (fat_init (fat_init (fat_init (fat_init (fat_init (fat_init (fat_init (fat_init (fat_last nin0))))))))))
theorem fld_Answer_mark (T : Txt K mg) : FldR K (r_Answer T) "mark" (rO rS) (fun a => a.«mark») := fldCl T.cl_Answer T.n_Answer_mark (fat_init (fat_init (fat_init (fat_init (fat_init (fat_init (fat_init (fat_init (fat_last (ninN nin0))))))))))
theorem fld_Answer_size (T : Txt K mg) : FldR K (r_Answer T) "size" rI (fun a => a.«size») := fldCl T.cl_Answer T.n_Answer_size (fat_init (fat_init (fat_init (fat_init (fat_init (fat_init (fat_init (fat_last (ninN (ninN nin0))))))))))
theorem fld_Answer_parts (T : Txt K mg) : FldR K (r_Answer T) "parts" (rT K (rTu K (rsC rI (rsC rS rs0)))) (fun a => a.«parts») := fldCl T.cl_Answer T.n_Answer_parts (fat_init (fat_init (fat_init (fat_init (fat_init (fat_init (fat_last (ninN (ninN (ninN nin0))))))))))
theorem fld_Answer_age (T : Txt K mg) : FldR K (r_Answer T) "age" rI (fun a => a.«age») := fldCl T.cl_Answer T.n_Answer_age (fat_init (fat_init (fat_init (fat_init (fat_init (fat_last (ninN (ninN (ninN (ninN nin0))))))))))
theorem fld_Answer_count (T : Txt K mg) : FldR K (r_Answer T) "count" rI (fun a => a.«count») := fldCl T.cl_Answer T.n_Answer_count (fat_init (fat_init (fat_init (fat_init (fat_last (ninN (ninN (ninN (ninN (ninN nin0))))))))))
theorem fld_Answer_rule (T : Txt K mg) : FldR K (r_Answer T) "rule" (r_Rule T) (fun a => a.«rule») := fldCl T.cl_Answer T.n_Answer_rule (fat_init (fat_init (fat_init (fat_last (ninN (ninN (ninN (ninN (ninN (ninN nin0))))))))))
theorem fld_Answer_turns (T : Txt K mg) : FldR K (r_Answer T) "turns" (rT K rS) (fun a => a.«turns») := fldCl T.cl_Answer T.n_Answer_turns (fat_init (fat_init (fat_last (ninN (ninN (ninN (ninN (ninN (ninN (ninN nin0))))))))))
theorem fld_Answer_tags (T : Txt K mg) : FldR K (r_Answer T) "tags" (rT K rS) (fun a => a.«tags») := fldCl T.cl_Answer T.n_Answer_tags (fat_init (fat_last (ninN (ninN (ninN (ninN (ninN (ninN (ninN (ninN nin0))))))))))
theorem fld_Answer_ground (T : Txt K mg) : FldR K (r_Answer T) "ground" (rT K (rTu K (rsC rI (rsC rI (rsC rI rs0))))) (fun a => a.«ground») := fldCl T.cl_Answer T.n_Answer_ground (fat_last (ninN (ninN (ninN (ninN (ninN (ninN (ninN (ninN (ninN nin0))))))))))
theorem ndo_Answer_told (T : Txt K mg) : Ndo (r_Answer T) T.C_Answer "told" := ndoCl (ninN (ninN (ninN (ninN (ninN (ninN (ninN (ninN (ninN (ninN nin0))))))))))
theorem ty_Answer (T : Txt K mg) : ∀ J I v a, (r_Answer T).top J I v a → ∀ H, Same J H → TyX K H v (.ref T.C_Answer) := fun J I v a ⟨p, dx, fs, e, h, _⟩ H s => by
  rw [e]
  exact .base (.ins (s _ _ h) T.cl_Answer T.ha_Answer T.hn_cls T.htk_cls T.hm_Answer)
theorem isi_Answer_Answer (T : Txt K mg) : (∀ J I v a, (r_Answer T).top J I v a → ∀ H, Same J H → TyX K H v (.ref T.C_Answer)) ∧ PySem.W.kitOne K (.ref T.C_Answer) (.ref T.C_Answer) = some true := ⟨ty_Answer T, T.ki_Answer_Answer⟩
end
section
variable {P : Program} {w : World} {K : PySem.W.Frag} {mg : Str → Option Value} {base : Heap}
theorem nab {n : Int} : (n % 2147483647).natAbs < 2 ^ 64 := by
  have := mod_lt (n := n) (m := 2147483647) (by decide)
  omega
theorem ok_law_well (T : Txt K mg) : FnOk P w K mg base CX0 1 T.f_law_well T.fd_law_well ["_law_cell"] (spWl 2) := by
  refine T.d_law_well.F.ok sc_law_well (fun vs H Q E h => ?_) (fun cdv A outer s H vs Q E hr h => ?_)
  · obtain ⟨n, rfl, _⟩ := h
    rfl
  · obtain ⟨n, rfl, q⟩ := h
    refine ⟨_, (pss_one (ps_ret (pe_lst (pa_cons (pv 0) (pa_cons pe_int pa_nil))))), ?_⟩
    exact ⟨.int n, rfl, (by show 2 ≤ sizeLine; decide), fun p hp => q p [n, 0] hp rfl⟩
theorem ok_law_draw (T : Txt K mg) : FnOk P w K mg base CX0 1 T.f_law_draw T.fd_law_draw ["_law_well_here", "_law_many"] (spDr 2 limW) := by
  refine T.d_law_draw.F.ok sc_law_draw (fun vs H Q E h => ?_) (fun cdv A outer s H vs Q E hr h => ?_)
  · obtain ⟨W, ns, m, rfl, _⟩ := h
    rfl
  · obtain ⟨W, ns, m, rfl, m0, m1, hW, hl, q⟩ := h
    obtain ⟨a, b, rfl⟩ : ∃ a b, ns = [a, b] := match ns, hl with
      | [a, b], _ => ⟨a, b, rfl⟩
    have hW : H W = some (.lst [.int a, .int b]) := hW
    have i0 : atI [V.int a, .int b] 0 = some (.int a) := rfl
    have i1 : atI [V.int a, .int b] 1 = some (.int b) := rfl
    have keep : ∀ x y, (∀ (c : Addr) (o : HO), c ≠ W → H c = some o → (upd H W (.lst [.int x, .int y])) c = some o) ∧ ∃ ns' : List Int, (upd H W (.lst [.int x, .int y])) W = some (.lst (ns'.map V.int)) ∧ ns'.length = 2 := fun x y => ⟨fun c o n h => by rw [upd_ne n]; exact h, [x, y], upd_same, rfl⟩
    refine ⟨_, (pss_cons (ps_if (pt_cmpR op_ge (pe_ix (ixLK K rfl) (pv 0) pe_int (fun _ _ => rfl)) (pe_op op_pow pe_int pe_int) (nomark _))
      (pss_cons (ps_set (i := 2) sc_law_draw.nd rfl (.inl rfl) (pe_op op_mod (pe_ix (ixLK K rfl) (pv 0) pe_int (fun _ _ => rfl)) (pv 1)))
      (pss_cons (ps_asg (pe_op op_fdivW (pe_ix (ixLK K rfl) (pv 0) pe_int (fun _ _ => rfl)) (pv 1)) (pg_sub (pv 0) pe_int set_list))
      (pss_one (ps_ret (pv 2)))))
      pss_nil)
      (pss_cons (ps_asg (pe_op op_add (pe_ix (ixLK K rfl) (pv 0) pe_int (fun _ _ => rfl)) pe_int) (pg_sub (pv 0) pe_int set_list))
      (pss_cons (ps_set (i := 3) sc_law_draw.nd rfl (.inl rfl) (pe_op op_add (pe_op op_mod (pe_ix (ixLK K rfl) (pv 0) pe_int (fun _ _ => rfl)) pe_int) (pe_op op_mul (pe_op op_fdivW (pe_ix (ixLK K rfl) (pv 0) pe_int (fun _ _ => rfl)) pe_int) pe_int)))
      (pss_cons (ps_set (i := 3) sc_law_draw.nd rfl (.inl rfl) (pe_op op_mod (pe_op op_add (pe_op op_add (pv 3) (pe_op op_mul pe_int (pe_ix (ixLK K rfl) (pv 0) pe_int (fun _ _ => rfl)))) pe_int) pe_int))
      (pss_cons (ps_set (i := 3) sc_law_draw.nd rfl (.inl rfl) (pe_op op_mod (pe_op op_pow (pv 3) pe_int) pe_int))
      (pss_cons (ps_set (i := 3) sc_law_draw.nd rfl (.inl rfl) (pe_op op_mod (pe_op op_mul (pv 3) (pe_op op_add (pe_op op_add (pe_op op_fdivW (pv 3) pe_int) pe_int) (pe_ix (ixLK K rfl) (pv 0) pe_int (fun _ _ => rfl)))) pe_int))
      (pss_one (ps_ret (pe_op op_mod (pe_op op_fdivW (pe_op op_mod (pe_op op_mul (pv 3) (pe_op op_add (pe_op op_fdivW (pv 3) pe_int) pe_int)) pe_int) pe_int) (pv 1)))))))))), ?_⟩
    refine ⟨.ref W, rfl, W, _, 0, _, rfl, rfl, SqL.of hW, i0, 10, 18, rfl, rfl, ⟨by decide, by decide, by decide⟩, a, _, rfl, rfl, _, rfl, ite2 (fun e => ?_) (fun e => ?_)⟩
    · refine ⟨.ref W, rfl, W, _, 0, _, rfl, rfl, SqL.of hW, i0, .int m, rfl, a, m, rfl, rfl, m0, ?_⟩
      refine ⟨.ref W, rfl, W, _, 0, _, rfl, rfl, SqL.of hW, i0, .int m, rfl, a, m, rfl, rfl, Lx.cdivW m0 m1, .ref W, rfl, W, _, 0, 0, rfl, rfl, hW, rfl, ?_⟩
      exact ⟨_, rfl, q _ _ (mod_lt m0).1 (mod_lt m0).2 (keep _ _).1 (keep _ _).2⟩
    · refine ⟨.ref W, rfl, W, _, 1, _, rfl, rfl, SqL.of hW, i1, b, 1, rfl, rfl, .ref W, rfl, W, _, 1, 1, rfl, rfl, hW, rfl, ?_⟩
      have hW' : (upd H W (.lst [.int a, .int (b + 1)])) W = some (.lst [.int a, .int (b + 1)]) := upd_same
      have j0 : atI [V.int a, .int (b + 1)] 0 = some (.int a) := rfl
      have j1 : atI [V.int a, .int (b + 1)] 1 = some (.int (b + 1)) := rfl
      refine ⟨.ref W, rfl, W, _, 0, _, rfl, rfl, SqL.of hW', j0, a, 2147483647, rfl, rfl, (show (0 : Int) < 2147483647 by decide), .ref W, rfl, W, _, 0, _, rfl, rfl, SqL.of hW', j0, a, 2147483647, rfl, rfl, Lx.cdivW (by decide) (by decide +kernel), _, 30011, rfl, rfl, .inr (by decide), _, _, rfl, rfl, ?_⟩
      refine ⟨_, rfl, .ref W, rfl, W, _, 1, _, rfl, rfl, SqL.of hW', j1, 69997, _, rfl, rfl, .inl (by decide), _, _, rfl, rfl, _, 1, rfl, rfl, _, 2147483647, rfl, rfl, (show (0 : Int) < 2147483647 by decide), ?_⟩
      refine ⟨_, rfl, _, 5, rfl, rfl, ⟨by decide, by decide, nab⟩, _, 2147483647, rfl, rfl, (show (0 : Int) < 2147483647 by decide), ?_⟩
      refine ⟨_, rfl, _, rfl, _, 1013, rfl, rfl, Lx.cdivW (by decide) (by decide +kernel), _, 70001, rfl, rfl, .ref W, rfl, W, _, 1, _, rfl, rfl, SqL.of hW', j1, _, _, rfl, rfl, _, _, rfl, rfl, cmul_of (mod_lt (by decide)), _, 2147483629, rfl, rfl, (show (0 : Int) < 2147483629 by decide), ?_⟩
      refine ⟨_, rfl, _, rfl, _, 2017, rfl, rfl, Lx.cdivW (by decide) (by decide +kernel), _, 40009, rfl, rfl, _, _, rfl, rfl, cmul_of ⟨(mod_lt (by decide)).1, Int.lt_trans (mod_lt (by decide)).2 (by decide)⟩, _, 2147483587, rfl, rfl, (show (0 : Int) < 2147483587 by decide), _, 3, rfl, rfl, Lx.cdivW (by decide) (by decide +kernel), .int m, rfl, _, m, rfl, rfl, m0, ?_⟩
      exact q _ _ (mod_lt m0).1 (mod_lt m0).2 (keep _ _).1 (keep _ _).2

theorem ok_is_made_of (T : Txt K mg) : FnOk P w K mg base CX0 1 T.f_is_made_of T.fd_is_made_of ["text", "signs", "least", "most"] (spF0 (rsC rS (rsC rS (rsC rI (rsC rI rs0)))) rB fun b => D.pure (ofB b.2.1 b.2.2.1 b.2.2.2.1 b.1)) := by
  refine T.d_is_made_of.F.ok sc_is_made_of (fun vs H Q E h => ?_) (fun cdv A outer s H vs Q E hr h => ?_)
  · obtain ⟨I, b, P, s, rp, _⟩ := h
    exact (lenC (lenC (lenC (lenC len0)))) _ _ _ _ rp
  refine ⟨_, (pss_cons (ps_if (pt_not (pt_val (pe_callB (isiK K rfl) (by rfl) T.m_isinstance (by decide +kernel) (pa_cons (pv 0) (pa_cons (pe_bltn (v := .ty "str") (by rfl) T.m_str (by decide +kernel) rfl) pa_nil)))))
      (pss_one (ps_ret pe_bl))
      pss_nil)
      (pss_cons (ps_if (PW.pt (pw_or (pt_cmpR op_lt (pe_callB call_len_str (by rfl) T.m_len (by decide +kernel) (pa_cons (pv 0) pa_nil)) (pv 2) (nomark _)) (pw_or1 (pt_cmpR op_gt (pe_callB call_len_str (by rfl) T.m_len (by decide +kernel) (pa_cons (pv 0) pa_nil)) (pv 3) (nomark _)))))
      (pss_one (ps_ret pe_bl))
      pss_nil)
      (pss_one (ps_ret (pe_callB (allK K rfl rfl) (by rfl) T.m_all (by decide +kernel) (pa_cons (pe_lc (own := [("sign", 4)]) (g := gName 4) (tt := tYes) (by rfl) sc_is_made_of.nd (pi_str (pv 0)) (blkOk_by (own := [("sign", 4)]) (N := ["text", "signs", "least", "most", "sign"]) (sc := defScope s_is_made_of) (by decide +kernel)) (fun _ _ _ _ _ => (pg_name (i := 4) sc_is_made_of.nd rfl (Or.inl rfl))) (fun _ _ _ _ _ => pts_nil) (fun _ _ _ _ _ => (pe_cmpR op_in_sign (pv 4) (pv 1) rfl))) pa_nil)))))), ?_⟩
  refine fn0 (K := K) (mg := mg) (N := ["text", "signs", "least", "most", "sign"]) (R := rB) (prm_cons (prm_cons (prm_cons (prm_cons prm_nil)))) (fun J I vs b h => by rw [(lenC (lenC (lenC (lenC len0)))) J I vs b h]; decide) (Γn := fun _ _ => []) (Γl := fun _ _ => []) (fun b => (sb_ifq (st_not (st_val (se_isi (b := true) tyx_S (by decide +kernel) (se_var rfl))))
      (sb_ret se_bl)
      (sb_ifq (st_orp (st_test (se_op ro_lt (se_cb ro_lenS (sa_cons (se_var rfl) sa_nil)) (se_var rfl))) (st_test (se_op ro_gt (se_cb ro_lenS (sa_cons (se_var rfl) sa_nil)) (se_var rfl))))
      (sb_ret se_bl)
      (sb_ret (se_cb ro_all (sa_cons (se_lc (si_str (se_var rfl)) sg_name (by rfl) (by rfl) (fun x1 => st_yes) (fun x1 => (se_op ro_inC (se_var rfl) (se_var rfl)))) sa_nil)))))) ?_ h
  intro b P h
  simp only [decide_eq_true_eq, D.bind, D.pure, D.need, D.any, D.nox] at h ⊢
  obtain ⟨z, sg, lo, hi, u⟩ := b
  dsimp only at h ⊢
  rw [if_neg (by decide)]
  refine ite2 (fun e => ?_) (fun e => ?_)
  · have h2 : (decide (lo ≤ (z.length : Int)) && decide ((z.length : Int) ≤ hi)) = false := by
      simp only [Bool.or_eq_true, decide_eq_true_eq] at e
      rw [Bool.and_eq_false_iff, decide_eq_false_iff_not, decide_eq_false_iff_not]
      omega
    unfold ofB at h
    rw [h2, Bool.false_and] at h
    exact h
  · refine compD_fun (fun _ => true) (fun c => decide (c ∈ sg.cps.toList)) _ _ _ (fun _ _ _ q => q) (fun _ _ _ _ q => q) ?_
    rw [List.filter_eq_self.mpr (fun _ _ => rfl), List.all_map]
    have h2 : (decide (lo ≤ (z.length : Int)) && decide ((z.length : Int) ≤ hi)) = true := by
      simp only [Bool.or_eq_true, decide_eq_true_eq] at e
      rw [Bool.and_eq_true, decide_eq_true_eq, decide_eq_true_eq]
      omega
    unfold ofB at h
    rw [h2, Bool.true_and] at h
    exact h
theorem ok_is_figures (T : Txt K mg) : FnOk P w K mg base CX0 2 T.f_is_figures T.fd_is_figures ["text"] (spF0 (rsC rS rs0) rB fun b => D.pure (figB b.1)) := by
  refine T.d_is_figures.F.ok sc_is_figures (fun vs H Q E h => ?_) (fun cdv A outer s H vs Q E hr h => ?_)
  · obtain ⟨I, b, P, s, rp, _⟩ := h
    exact (lenC len0) _ _ _ _ rp
  refine ⟨_, (pss_cons (ps_if (pt_not (pt_val (pe_call (ok_is_made_of T) (hr.mono (by decide)) (by rfl) T.d_is_made_of.g T.d_is_made_of.F.kp T.d_is_made_of.b .nil pass0 (pa_cons (pv 0) (pa_cons (pe_glob (v := .str "0123456789") (by rfl) T.g_FIGURES ⟨_, rfl⟩) (pa_cons pe_int (pa_cons (pe_glob (v := .int 60) (by rfl) T.g_MOST_FIGURES ⟨_, rfl⟩) pa_nil)))))))
      (pss_one (ps_ret pe_bl))
      pss_nil)
      (pss_one (ps_ret (pe_or (pe_cmpR op_eq (pv 0) pe_str (nomark _)) (pe_one (pe_cmpR op_ne (pe_ix ix_str (pv 0) pe_int (fun _ _ => rfl)) pe_str (nomark _))))))), ?_⟩
  refine fn0 (K := K) (mg := mg) (N := ["text"]) (R := rB) (prm_cons prm_nil) (fun J I vs b h => by rw [(lenC len0) J I vs b h]; decide) (Γn := fun _ _ => []) (Γl := fun _ _ => []) (fun b => (sb_ifq (st_not (st_val (se_call0 (sa_cons (se_var rfl) (sa_cons se_str (sa_cons se_int (sa_cons se_int sa_nil)))))))
      (sb_ret se_bl)
      (sb_ret (se_or (se_op ro_eqS (se_var rfl) se_str) (se_op ro_neS (se_op ro_ixS (se_var rfl) se_int) se_str))))) ?_ h
  intro b P h
  simp only [decide_eq_true_eq, D.bind, D.pure, D.need, D.any, D.nox] at h ⊢
  obtain ⟨z, u⟩ := b
  dsimp only at h ⊢
  unfold figB at h
  have e0 : ofB "0123456789" 1 60 z = ofB (Str.ofString "0123456789") 1 60 z := rfl
  rw [e0] at h
  cases ho : ofB (Str.ofString "0123456789") 1 60 z with
  | false =>
    rw [ho] at h
    exact h
  | true =>
    rw [ho, Bool.true_and] at h
    refine iteF ?_
    unfold nought at h
    have hne : z.cps.toList ≠ [] := fun e => by
      unfold ofB at ho
      simp only [Bool.and_eq_true, decide_eq_true_eq] at ho
      have := My.len_tl z
      rw [e] at this
      have h1 := ho.1.1
      simp only [List.length_nil] at this
      omega
    obtain ⟨c, r, hc⟩ := List.exists_cons_of_ne_nil hne
    have hat : atI z.cps.toList 0 = some c := by rw [hc]; exact atI_nat (show (c :: r)[0]? = some c from rfl)
    rw [show z.cps.toList.head? = some c by rw [hc]; rfl] at h
    have e48 : decide ((⟨#[c]⟩ : Str) = Str.ofString "0") = decide (some c = some 48) := by
      have h48 : (Str.ofString "0").cps.toList = [48] := by decide
      refine decide_eq_decide.mpr ⟨fun q => ?_, fun q => ?_⟩
      · have : (⟨#[c]⟩ : Str).cps.toList = (Str.ofString "0").cps.toList := by rw [q]
        rw [h48] at this
        simpa using this
      · have q' : c = 48 := Option.some.inj q
        exact PyProof.Rows.ext_toList (by rw [h48, q'])
    refine ite2 (fun e => ?_) (fun e => ⟨c, hat, ?_⟩)
    · rw [show decide (z = "0") = true from decide_eq_true e, Bool.true_or] at h
      exact h
    · rw [show decide (z = "0") = false from decide_eq_false e, Bool.false_or] at h
      rw [e48]
      exact h

theorem ok_is_name (T : Txt K mg) : FnOk P w K mg base CX0 2 T.f_is_name T.fd_is_name ["text"] (spF0 (rsC rS rs0) rB fun b => D.pure (nameB b.1)) := by
  refine T.d_is_name.F.ok sc_is_name (fun vs H Q E h => ?_) (fun cdv A outer s H vs Q E hr h => ?_)
  · obtain ⟨I, b, P, s, rp, _⟩ := h
    exact (lenC len0) _ _ _ _ rp
  refine ⟨_, (pss_one (ps_ret (pe_call (ok_is_made_of T) (hr.mono (by decide)) (by rfl) T.d_is_made_of.g T.d_is_made_of.F.kp T.d_is_made_of.b .nil pass0 (pa_cons (pv 0) (pa_cons (pe_glob (v := .str "abcdefghijklmnopqrstuvwxyz") (by rfl) T.g_LETTERS ⟨_, rfl⟩) (pa_cons pe_int (pa_cons (pe_glob (v := .int 8) (by rfl) T.g_LONGEST_NAME ⟨_, rfl⟩) pa_nil))))))), ?_⟩
  refine fn0 (K := K) (mg := mg) (N := ["text"]) (R := rB) (prm_cons prm_nil) (fun J I vs b h => by rw [(lenC len0) J I vs b h]; decide) (Γn := fun _ _ => []) (Γl := fun _ _ => []) (fun b => (sb_ret (se_call0 (sa_cons (se_var rfl) (sa_cons se_str (sa_cons se_int (sa_cons se_int sa_nil))))))) ?_ h
  intro b P h
  exact h
theorem ok_word_told (T : Txt K mg) : FnOk P w K mg base CX0 3 T.f_word_told T.fd_word_told ["piece"] (spF0 (rsC rS rs0) (rO (rTu K (rsC rS (rsC (rO rI) rs0)))) fun b => D.pure (wordT b.1)) := by
  refine T.d_word_told.F.ok sc_word_told (fun vs H Q E h => ?_) (fun cdv A outer s H vs Q E hr h => ?_)
  · obtain ⟨I, b, P, s, rp, _⟩ := h
    exact (lenC len0) _ _ _ _ rp
  refine ⟨_, (pss_cons (ps_asg (pe_partition (pv 0) pe_str) (pg_tup rfl (pgs_cons (pg_name (i := 1) sc_word_told.nd rfl (.inl rfl)) (pgs_cons (pg_name (i := 2) sc_word_told.nd rfl (.inl rfl)) (pgs_cons (pg_name (i := 3) sc_word_told.nd rfl (.inl rfl)) pgs_nil)))))
      (pss_cons (ps_if (pt_not (pt_val (pe_call (ok_is_name T) (hr.mono (by decide)) (by rfl) T.d_is_name.g T.d_is_name.F.kp T.d_is_name.b .nil pass0 (pa_cons (pv 1) pa_nil))))
      (pss_one (ps_ret pe_non))
      pss_nil)
      (pss_cons (ps_if (pt_cmpR op_eq (pv 2) pe_str (nomark _))
      (pss_one (ps_ret (pe_tup (pa_cons (pv 1) (pa_cons pe_non pa_nil)))))
      pss_nil)
      (pss_cons (ps_if (pt_not (pt_val (pe_call (ok_is_figures T) (hr.mono (by decide)) (by rfl) T.d_is_figures.g T.d_is_figures.F.kp T.d_is_figures.b .nil pass0 (pa_cons (pv 3) pa_nil))))
      (pss_one (ps_ret pe_non))
      pss_nil)
      (pss_one (ps_ret (pe_tup (pa_cons (pv 1) (pa_cons (pe_callTy call_int_str (by rfl) T.m_int (by decide +kernel) (pa_cons (pv 3) pa_nil)) pa_nil))))))))), ?_⟩
  refine fn0 (K := K) (mg := mg) (N := ["piece", "name", "blank", "figures"]) (R := (rO (rTu K (rsC rS (rsC (rO rI) rs0))))) (prm_cons prm_nil) (fun J I vs b h => by rw [(lenC len0) J I vs b h]; decide) (Γn := fun _ _ => []) (Γl := fun _ _ => []) (fun b => (sb_asg (sg_tup (sgs_cons (sgs_cons (sgs_cons sgs_nil))) (lenC (lenC (lenC len0)))) rfl (se_m1 ro_partition2 (se_var rfl) se_str) (fun v1 =>
      (sb_ifq (st_not (st_val (se_call0 (sa_cons (se_var rfl) sa_nil))))
      (sb_ret se_noneO)
      (sb_ifq (st_test (se_op ro_eqS (se_var rfl) se_str))
      (sb_ret (SE.map co_some_tu (se_tu 2 (sa_cons (se_var rfl) (sa_cons se_noneO sa_nil)) (lenC (lenC len0)))))
      (sb_ifq (st_not (st_val (se_call0 (sa_cons (se_var rfl) sa_nil))))
      (sb_ret se_noneO)
      (sb_ret (SE.map co_some_tu (se_tu 2 (sa_cons (se_var rfl) (sa_cons (SE.map co_some_int (se_cb ro_intS (sa_cons (se_var rfl) sa_nil))) sa_nil)) (lenC (lenC len0))))))))))) ?_ h
  intro b P h
  simp only [decide_eq_true_eq, D.bind, D.pure, D.need, D.any, D.nox] at h ⊢
  unfold wordT at h
  generalize Txt.partition b.1 (Str.ofString " ") = pt at h ⊢
  obtain ⟨nm, bl, fg⟩ := pt
  refine ⟨by decide, ?_⟩
  unfold wordP at h
  dsimp only at h ⊢
  cases hn : nameB nm with
  | false =>
    rw [hn] at h
    exact h
  | true =>
    rw [hn, if_pos rfl] at h
    refine iteF (ite2 (fun e => ?_) (fun e => ?_))
    · rw [if_pos e] at h
      exact h
    · rw [if_neg e] at h
      cases hf : figB fg with
      | false =>
        rw [hf] at h
        exact h
      | true =>
        rw [hf, if_pos rfl] at h
        obtain ⟨n, hi, hl⟩ := fig_int hf
        rw [hi] at h
        exact iteF ⟨n, hi, by omega, h⟩
theorem ok_words_told (T : Txt K mg) : FnOk P w K mg base CX0 4 T.f_words_told T.fd_words_told ["text"] (spF0 (rsC rS rs0) (rL (rO (rTu K (rsC rS (rsC (rO rI) rs0))))) fun b => D.need (b.1.length ≤ 20000) (D.pure (wordsT b.1))) := by
  refine T.d_words_told.F.ok sc_words_told (fun vs H Q E h => ?_) (fun cdv A outer s H vs Q E hr h => ?_)
  · obtain ⟨I, b, P, s, rp, _⟩ := h
    exact (lenC len0) _ _ _ _ rp
  refine ⟨_, (pss_cons (ps_if (pt_cmpR op_eq (bmK K rfl (pe_bm PySem.F.plainAttrs_str PySem.F.slot_str_strip PySem.F.type_str_strip mt_stripChars (pv 0) (pa_cons pe_str pa_nil))) pe_str (nomark _))
      (pss_one (ps_ret (pe_lst pa_nil)))
      pss_nil)
      (pss_one (ps_ret (pe_lc (own := [("piece", 1)]) (g := gName 1) (tt := tYes) (by rfl) sc_words_told.nd (pi_listK K rfl (pe_split (pv 0) pe_str)) (blkOk_by (own := [("piece", 1)]) (N := ["text", "piece"]) (sc := defScope s_words_told) (by decide +kernel)) (fun _ _ _ _ _ => (pg_name (i := 1) sc_words_told.nd rfl (Or.inl rfl))) (fun _ _ _ _ _ => pts_nil) (fun _ _ _ _ _ => (pe_call (ok_word_told T) (hr.mono (by decide)) (by rfl) T.d_word_told.g T.d_word_told.F.kp T.d_word_told.b .nil pass0 (pa_cons (bmK K rfl (pe_bm PySem.F.plainAttrs_str PySem.F.slot_str_strip PySem.F.type_str_strip mt_stripChars (pv 1) (pa_cons pe_str pa_nil))) pa_nil))))))), ?_⟩
  refine fn0 (K := K) (mg := mg) (N := ["text", "piece"]) (R := (rL (rO (rTu K (rsC rS (rsC (rO rI) rs0)))))) (prm_cons prm_nil) (fun J I vs b h => by rw [(lenC len0) J I vs b h]; decide) (Γn := fun _ _ => []) (Γl := fun _ _ => []) (fun b => (sb_ifq (st_test (se_op ro_eqS (se_bm ty_S ro_strip2 (se_var rfl) (sa_cons se_str sa_nil)) se_str))
      (sb_ret (se_lstn (ln_nil (R := (rO (rTu K (rsC rS (rsC (rO rI) rs0))))))))
      (sb_ret (se_lc (si_list (se_m1 ro_split2 (se_var rfl) se_str)) sg_name (by rfl) (by rfl) (fun x1 => st_yes) (fun x1 => (se_call0 (sa_cons (se_bm ty_S ro_strip2 (se_var rfl) (sa_cons se_str sa_nil)) sa_nil))))))) ?_ h
  intro b P h
  simp only [decide_eq_true_eq, D.bind, D.pure, D.need, D.any, D.nox] at h ⊢
  obtain ⟨hl, h⟩ := h
  unfold wordsT at h
  refine ite2 (fun e => ?_) (fun e => ?_)
  · rw [if_pos e] at h
    exact h
  · rw [if_neg e] at h
    have hs : 100000 ≤ sizeLine := by decide
    refine ⟨⟨by decide, by decide, by decide +kernel, by omega⟩, ?_⟩
    refine compD_fun (fun _ => true) (fun p => wordT (Txt.stripChars p (Str.ofString " "))) _ _ _ (fun _ _ _ q => q) (fun _ _ _ _ q => q) ?_
    rw [List.filter_eq_self.mpr (fun _ _ => rfl)]
    exact h
theorem ok_suits_its_name (T : Txt K mg) : FnOk P w K mg base CX0 1 T.f_suits_its_name T.fd_suits_its_name ["word", "numbers", "truths"] (spF0 (rsC (rTu K (rsC rS (rsC (rO rI) rs0))) (rsC (rT K rS) (rsC (rT K rS) rs0))) rB fun b => D.pure (suitT b.2.1.l b.2.2.1.l b.1)) := by
  refine T.d_suits_its_name.F.ok sc_suits_its_name (fun vs H Q E h => ?_) (fun cdv A outer s H vs Q E hr h => ?_)
  · obtain ⟨I, b, P, s, rp, _⟩ := h
    exact (lenC (lenC (lenC len0))) _ _ _ _ rp
  refine ⟨_, (pss_cons (ps_asg (pv 0) (pg_tup rfl (pgs_cons (pg_name (i := 3) sc_suits_its_name.nd rfl (.inl rfl)) (pgs_cons (pg_name (i := 4) sc_suits_its_name.nd rfl (.inl rfl)) pgs_nil))))
      (pss_cons (ps_if (pt_cmpR (inK K rfl) (pv 3) (pv 1) rfl)
      (pss_one (ps_ret (pe_cmpR op_notN (pv 4) pe_non (nomark _))))
      pss_nil)
      (pss_one (ps_ret (pe_or (pe_cmpR (notInK K rfl) (pv 3) (pv 2) rfl) (pe_one (pe_cmpR op_isN (pv 4) pe_non (nomark _)))))))), ?_⟩
  refine fn0 (K := K) (mg := mg) (N := ["word", "numbers", "truths", "name", "number"]) (R := rB) (prm_cons (prm_cons (prm_cons prm_nil))) (fun J I vs b h => by rw [(lenC (lenC (lenC len0))) J I vs b h]; decide) (Γn := fun _ _ => []) (Γl := fun _ _ => []) (fun b => (sb_asg (sg_tup (sgs_cons (sgs_cons sgs_nil)) (lenC (lenC len0))) rfl (se_var rfl) (fun v1 =>
      (sb_ifq (st_test (se_op ro_inST (se_var rfl) (se_var rfl)))
      (sb_ret (se_op ro_notN (se_var rfl) se_non))
      (sb_ret (se_orp (se_op ro_notInST (se_var rfl) (se_var rfl)) (se_op ro_isN (se_var rfl) se_non))))))) ?_ h
  intro b P h
  simp only [decide_eq_true_eq, D.bind, D.pure, D.need, D.any, D.nox] at h ⊢
  unfold suitT at h
  refine ite2 (fun e => ?_) (fun e => ?_)
  · rw [if_pos (decide_eq_true e)] at h
    exact h
  · rw [if_neg (fun z => e (of_decide_eq_true z))] at h
    exact h
theorem ok_first_wrong (T : Txt K mg) : FnOk P w K mg base CX0 2 T.f_first_wrong T.fd_first_wrong ["words", "numbers", "truths"] (spF0 (rsC (rL (rO (rTu K (rsC rS (rsC (rO rI) rs0))))) (rsC (rT K rS) (rsC (rT K rS) rs0))) (rO rI) fun b => D.pure ((wrongT b.2.1.l b.2.2.1.l b.1).map Int.ofNat)) := by
  refine T.d_first_wrong.F.ok sc_first_wrong (fun vs H Q E h => ?_) (fun cdv A outer s H vs Q E hr h => ?_)
  · obtain ⟨I, b, P, s, rp, _⟩ := h
    exact (lenC (lenC (lenC len0))) _ _ _ _ rp
  refine ⟨_, (pss_cons (ps_for PassesOwn.never rfl (pi_enum (by rfl) T.m_enumerate (pa_cons (pv 0) pa_nil)) (pg_tup rfl (pgs_cons (pg_name (i := 3) sc_first_wrong.nd rfl (.inl rfl)) (pgs_cons (pg_name (i := 4) sc_first_wrong.nd rfl (.inl rfl)) pgs_nil)))
      (pss_one (ps_if (PW.pt (pw_or (pt_cmpR op_isN (pv 4) pe_non (nomark _)) (pw_or1 (pt_not (pt_val (pe_call (ok_suits_its_name T) (hr.mono (by decide)) (by rfl) T.d_suits_its_name.g T.d_suits_its_name.F.kp T.d_suits_its_name.b .nil pass0 (pa_cons (pv 4) (pa_cons (pv 1) (pa_cons (pv 2) pa_nil)))))))))
      (pss_one (ps_ret (pv 3)))
      pss_nil)))
      (pss_one (ps_ret pe_non))), ?_⟩
  refine fn0 (K := K) (mg := mg) (N := ["words", "numbers", "truths", "at", "word"]) (R := (rO rI)) (prm_cons (prm_cons (prm_cons prm_nil))) (fun J I vs b h => by rw [(lenC (lenC (lenC len0))) J I vs b h]; decide) (Γn := fun _ _ => []) (Γl := fun _ _ => []) (fun b => (sb_loop (s0 := ()) (fun s : Unit => [⟨.x, 3, ()⟩, ⟨.x, 4, ()⟩]) (si_enum rfl (sa_cons (se_var rfl) sa_nil)) (sg_tup (sgs_cons (sgs_cons sgs_nil)) (lenC (lenC len0))) rfl ⟨.inl rfl, .inl rfl, trivial⟩ (fun x2 s1 =>
      (sb_if (st_or (st_test (se_op ro_isN (se_var rfl) se_non)) (st_not (st_val (se_call0 (sa_cons (SE.get (se_var rfl)) (sa_cons (se_var rfl) (sa_cons (se_var rfl) sa_nil)))))))
      (sb_ret (SE.map co_some_int (se_var rfl)))
      (sb_nextK (ρ := fun s : Unit => [⟨.x, 3, ()⟩, ⟨.x, 4, ()⟩]) (s := ()) 4 rfl rfl ⟨.inl rfl, .inl rfl, trivial⟩)))
      (fun s3 => (sb_ret se_noneO)))) ?_ h
  intro b P h
  simp only [decide_eq_true_eq, D.bind, D.pure, D.need, D.any, D.nox] at h ⊢
  exact wrong_loop h
theorem ok_numbers_told (T : Txt K mg) : FnOk P w K mg base CX0 1 T.f_numbers_told T.fd_numbers_told ["words", "name"] (spF0 (rsC (rL (rTu K (rsC rS (rsC (rO rI) rs0)))) (rsC rS rs0)) (rL (rO rI)) fun b => D.pure (numsT b.2.1 b.1)) := by
  refine T.d_numbers_told.F.ok sc_numbers_told (fun vs H Q E h => ?_) (fun cdv A outer s H vs Q E hr h => ?_)
  · obtain ⟨I, b, P, s, rp, _⟩ := h
    exact (lenC (lenC len0)) _ _ _ _ rp
  refine ⟨_, (pss_one (ps_ret (pe_lc (own := [("named", 2), ("number", 3)]) (g := gTup K 2 (gCons (gName 2) (gCons (gName 3) gNil))) (by rfl) sc_numbers_told.nd (pi_listK K rfl (pv 0)) (blkOk_by (own := [("named", 2), ("number", 3)]) (N := ["words", "name", "named", "number"]) (sc := defScope s_numbers_told) (by decide +kernel)) (fun _ _ _ _ _ => (pg_tup rfl (pgs_cons (pg_name (i := 2) sc_numbers_told.nd rfl (Or.inl rfl)) (pgs_cons (pg_name (i := 3) sc_numbers_told.nd rfl (Or.inl rfl)) pgs_nil)))) (fun _ _ _ _ _ => (pts_one (pt_cmpR op_eq (pv 2) (pv 1) (nomark _)))) (fun _ _ _ _ _ => (pv 3))))), ?_⟩
  refine fn0 (K := K) (mg := mg) (N := ["words", "name", "named", "number"]) (R := (rL (rO rI))) (prm_cons (prm_cons prm_nil)) (fun J I vs b h => by rw [(lenC (lenC len0)) J I vs b h]; decide) (Γn := fun _ _ => []) (Γl := fun _ _ => []) (fun b => (sb_ret (se_lc (si_list (se_var rfl)) (sg_tup (sgs_cons (sgs_cons sgs_nil)) (lenC (lenC len0))) (by rfl) (by rfl) (fun x1 => (st_test (se_op ro_eqS (se_var rfl) (se_var rfl)))) (fun x1 => (se_var rfl))))) ?_ h
  intro b P h
  simp only [decide_eq_true_eq, D.bind, D.pure, D.need, D.any, D.nox] at h ⊢
  exact compD_fun (fun d : TW => decide (d.r.1 = b.2.1)) (fun d : TW => d.r.2.1) _ _ _ (fun _ _ _ q => q) (fun _ _ _ _ q => q) h
theorem ok_is_told (T : Txt K mg) : FnOk P w K mg base CX0 1 T.f_is_told T.fd_is_told ["words", "name"] (spF0 (rsC (rL (rO (rTu K (rsC rS (rsC (rO rI) rs0))))) (rsC rS rs0)) rB fun b => D.pure (decide (some (tw b.2.1 none) ∈ b.1))) := by
  refine T.d_is_told.F.ok sc_is_told (fun vs H Q E h => ?_) (fun cdv A outer s H vs Q E hr h => ?_)
  · obtain ⟨I, b, P, s, rp, _⟩ := h
    exact (lenC (lenC len0)) _ _ _ _ rp
  refine ⟨_, (pss_one (ps_ret (pe_cmpR (inDK K rfl (u65 hr)) (pe_tup (pa_cons (pv 1) (pa_cons pe_non pa_nil))) (pv 0) rfl))), ?_⟩
  refine fn0 (K := K) (mg := mg) (N := ["words", "name"]) (R := rB) (prm_cons (prm_cons prm_nil)) (fun J I vs b h => by rw [(lenC (lenC len0)) J I vs b h]; decide) (Γn := fun _ _ => []) (Γl := fun _ _ => []) (fun b => (sb_ret (se_op ro_inD (SE.map co_some_tu (se_tu 2 (sa_cons (se_var rfl) (sa_cons se_noneO sa_nil)) (lenC (lenC len0)))) (se_var rfl)))) ?_ h
  intro b P h
  simp only [decide_eq_true_eq, D.bind, D.pure, D.need, D.any, D.nox] at h ⊢
  exact decP h

theorem ok_Wish_init (T : Txt K mg) : FnOk P w K mg base CX0 1 T.f_Wish_init T.fd_Wish_init ["self", "atmost", "left", "worn", "anew", "kept", "firm"] (spN K mg T.C_Wish (rsC (rO rI) (rsC rI (rsC rI (rsC rB (rsC rB (rsC rB rs0)))))) (F_Wish T) to_Wish fun b => D.pure ⟨b.1, b.2.1, b.2.2.1, b.2.2.2.1, b.2.2.2.2.1, b.2.2.2.2.2.1⟩) := by
  refine T.d_Wish_init.F.ok sc_Wish_init (fun vs H Q E h => ?_) (fun cdv A outer s H vs Q E hr h => ?_)
  · obtain ⟨p, dx, vs', I, b, P, X, rfl, _, _, _, rp, _⟩ := h
    exact congrArg Nat.succ ((lenC (lenC (lenC (lenC (lenC (lenC len0)))))) _ _ _ _ rp)
  refine ⟨_, (pss_cons (ps_fld (pv 0) (pv 1) rfl)
      (pss_cons (ps_fld (pv 0) (pv 2) rfl)
      (pss_cons (ps_fld (pv 0) (pv 3) rfl)
      (pss_cons (ps_fld (pv 0) (pv 4) rfl)
      (pss_cons (ps_fld (pv 0) (pv 5) rfl)
      (pss_one (ps_fld (pv 0) (pv 6) rfl))))))), ?_⟩
  refine fnN (K := K) (mg := mg) (N := ["self", "atmost", "left", "worn", "anew", "kept", "firm"]) (F := F_Wish T) (to := to_Wish) (of := of_Wish) (fun _ => rfl) (prm_cons (prm_cons (prm_cons (prm_cons (prm_cons (prm_cons prm_nil)))))) (fun J I vs b h => by rw [(lenC (lenC (lenC (lenC (lenC (lenC len0)))))) J I vs b h]; decide) (Γl := fun _ _ => []) (fun p dx b => (sb_fldN rfl T.cl_Wish T.n_Wish_atmost nin0 fewF0 (Nat.le_of_ble_eq_true rfl) (se_var rfl) (fun v1 =>
      (sb_fldN rfl T.cl_Wish T.n_Wish_left (ninN nin0) (fewFN fewF0) (Nat.le_of_ble_eq_true rfl) (se_var rfl) (fun v2 =>
      (sb_fldN rfl T.cl_Wish T.n_Wish_worn (ninN (ninN nin0)) (fewFN (fewFN fewF0)) (Nat.le_of_ble_eq_true rfl) (se_var rfl) (fun v3 =>
      (sb_fldN rfl T.cl_Wish T.n_Wish_anew (ninN (ninN (ninN nin0))) (fewFN (fewFN (fewFN fewF0))) (Nat.le_of_ble_eq_true rfl) (se_var rfl) (fun v4 =>
      (sb_fldN rfl T.cl_Wish T.n_Wish_kept (ninN (ninN (ninN (ninN nin0)))) (fewFN (fewFN (fewFN (fewFN fewF0)))) (Nat.le_of_ble_eq_true rfl) (se_var rfl) (fun v5 =>
      (sb_end (sb_fldN rfl T.cl_Wish T.n_Wish_firm (ninN (ninN (ninN (ninN (ninN nin0))))) (fewFN (fewFN (fewFN (fewFN (fewFN fewF0))))) (Nat.le_of_ble_eq_true rfl) (se_var rfl) (fun v6 =>
      (sb_next (s := (((((((), v1), v2), v3), v4), v5), v6)) ⟨.inr rfl, trivial⟩))))))))))))))) ?_ h
  intro b P X h
  exact h
theorem ok_NoWish_init (T : Txt K mg) : FnOk P w K mg base CX0 1 T.f_NoWish_init T.fd_NoWish_init ["self", "at"] (Lx.spEI "at" T.C_NoWish) := by
  refine T.d_NoWish_init.F.ok sc_NoWish_init (fun vs H Q E h => ?_) (fun cdv A outer s H vs Q E hr h => ?_)
  · obtain ⟨a, y, rfl, _⟩ := h
    rfl
  · obtain ⟨a, y, rfl, h, q⟩ := h
    refine ⟨_, pss_one (ps_ost (pv 0) (pv 1)), ?_⟩
    exact ⟨y, rfl, .ref a, rfl, a, T.C_NoWish, rfl, T.ox_NoWish, T.na_NoWish, .inl ⟨h, fun dx h1 h2 => q dx h1 h2⟩⟩

theorem ok_Rule_init (T : Txt K mg) : FnOk P w K mg base CX0 1 T.f_Rule_init T.fd_Rule_init ["self", "keep", "worn", "alone", "anew", "own", "common", "never", "strict"] (spN K mg T.C_Rule (rsC rI (rsC rI (rsC rI (rsC rB (rsC rB (rsC rB (rsC rB (rsC rB rs0)))))))) (F_Rule T) to_Rule fun b => D.pure ⟨b.1, b.2.1, b.2.2.1, b.2.2.2.1, b.2.2.2.2.1, b.2.2.2.2.2.1, b.2.2.2.2.2.2.1, b.2.2.2.2.2.2.2.1⟩) := by
  refine T.d_Rule_init.F.ok sc_Rule_init (fun vs H Q E h => ?_) (fun cdv A outer s H vs Q E hr h => ?_)
  · obtain ⟨p, dx, vs', I, b, P, X, rfl, _, _, _, rp, _⟩ := h
    exact congrArg Nat.succ ((lenC (lenC (lenC (lenC (lenC (lenC (lenC (lenC len0)))))))) _ _ _ _ rp)
  refine ⟨_, (pss_cons (ps_fld (pv 0) (pv 1) rfl)
      (pss_cons (ps_fld (pv 0) (pv 2) rfl)
      (pss_cons (ps_fld (pv 0) (pv 3) rfl)
      (pss_cons (ps_fld (pv 0) (pv 4) rfl)
      (pss_cons (ps_fld (pv 0) (pv 5) rfl)
      (pss_cons (ps_fld (pv 0) (pv 6) rfl)
      (pss_cons (ps_fld (pv 0) (pv 7) rfl)
      (pss_one (ps_fld (pv 0) (pv 8) rfl))))))))), ?_⟩
  refine fnN (K := K) (mg := mg) (N := ["self", "keep", "worn", "alone", "anew", "own", "common", "never", "strict"]) (F := F_Rule T) (to := to_Rule) (of := of_Rule) (fun _ => rfl) (prm_cons (prm_cons (prm_cons (prm_cons (prm_cons (prm_cons (prm_cons (prm_cons prm_nil)))))))) (fun J I vs b h => by rw [(lenC (lenC (lenC (lenC (lenC (lenC (lenC (lenC len0)))))))) J I vs b h]; decide) (Γl := fun _ _ => []) (fun p dx b => (sb_fldN rfl T.cl_Rule T.n_Rule_keep nin0 fewF0 (Nat.le_of_ble_eq_true rfl) (se_var rfl) (fun v1 =>
      (sb_fldN rfl T.cl_Rule T.n_Rule_worn (ninN nin0) (fewFN fewF0) (Nat.le_of_ble_eq_true rfl) (se_var rfl) (fun v2 =>
      (sb_fldN rfl T.cl_Rule T.n_Rule_alone (ninN (ninN nin0)) (fewFN (fewFN fewF0)) (Nat.le_of_ble_eq_true rfl) (se_var rfl) (fun v3 =>
      (sb_fldN rfl T.cl_Rule T.n_Rule_anew (ninN (ninN (ninN nin0))) (fewFN (fewFN (fewFN fewF0))) (Nat.le_of_ble_eq_true rfl) (se_var rfl) (fun v4 =>
      (sb_fldN rfl T.cl_Rule T.n_Rule_own (ninN (ninN (ninN (ninN nin0)))) (fewFN (fewFN (fewFN (fewFN fewF0)))) (Nat.le_of_ble_eq_true rfl) (se_var rfl) (fun v5 =>
      (sb_fldN rfl T.cl_Rule T.n_Rule_common (ninN (ninN (ninN (ninN (ninN nin0))))) (fewFN (fewFN (fewFN (fewFN (fewFN fewF0))))) (Nat.le_of_ble_eq_true rfl) (se_var rfl) (fun v6 =>
      (sb_fldN rfl T.cl_Rule T.n_Rule_never (ninN (ninN (ninN (ninN (ninN (ninN nin0)))))) (fewFN (fewFN (fewFN (fewFN (fewFN (fewFN fewF0)))))) (Nat.le_of_ble_eq_true rfl) (se_var rfl) (fun v7 =>
      (sb_end (sb_fldN rfl T.cl_Rule T.n_Rule_strict (ninN (ninN (ninN (ninN (ninN (ninN (ninN nin0))))))) (fewFN (fewFN (fewFN (fewFN (fewFN (fewFN (fewFN fewF0))))))) (Nat.le_of_ble_eq_true rfl) (se_var rfl) (fun v8 =>
      (sb_next (s := (((((((((), v1), v2), v3), v4), v5), v6), v7), v8)) ⟨.inr rfl, trivial⟩))))))))))))))))))) ?_ h
  intro b P X h
  exact h
end
end My
namespace My
open PySem PySem.Spec PyProof.Rows L2 TL
open Lx hiding ints_of paired_app paired_at Wd
open Lw Ls Mo Ak
section
variable {P : Program} {w : World} {K : PySem.W.Frag} {mg : Str → Option Value} {base : Heap}
theorem ok_in_words (T : Txt K mg) : FnOk P w K mg base CX0 1 T.f_in_words T.fd_in_words ["numbers", "truths"] (spF0 (rsC (rL (rTu K (rsC rS (rsC (rO rI) (rsC (rO rI) rs0))))) (rsC (rL (rTu K (rsC rS (rsC rB rs0)))) rs0)) rS fun b => D.need ((∀ x ∈ b.1, okN x) ∧ (∀ x ∈ b.2.1, x.r.1.length ≤ 20) ∧ b.1.length ≤ 20 ∧ b.2.1.length ≤ 20) (D.pure (inW b.1 b.2.1))) := by
  refine T.d_in_words.F.ok sc_in_words (fun vs H Q E h => ?_) (fun cdv A outer s H vs Q E hr h => ?_)
  · obtain ⟨I, b, P, s, rp, _⟩ := h
    exact (lenC (lenC len0)) _ _ _ _ rp
  refine ⟨_, (pss_cons (ps_setLc (i := 2) (own := [("name", 3), ("number", 4), ("untold", 5)]) (g := gTup K 3 (gCons (gName 3) (gCons (gName 4) (gCons (gName 5) gNil)))) (by rfl) sc_in_words.nd rfl rfl (sw_true rfl rfl rfl (by decide +kernel)) (pi_listK K rfl (pv 0)) (blkOk_by (own := [("name", 3), ("number", 4), ("untold", 5)]) (N := ["numbers", "truths", "words", "name", "number", "untold", "truth"]) (sc := defScope s_in_words) (by decide +kernel)) (fun _ _ _ _ _ => (pg_tup rfl (pgs_cons (pg_name (i := 3) sc_in_words.nd rfl (Or.inl rfl)) (pgs_cons (pg_name (i := 4) sc_in_words.nd rfl (Or.inl rfl)) (pgs_cons (pg_name (i := 5) sc_in_words.nd rfl (Or.inl rfl)) pgs_nil))))) (fun _ _ _ _ _ => (pts_one (pt_cmpR op_ne (pv 4) (pv 5) (nomark _)))) (fun _ _ _ _ _ => (pe_joined (.cons (pe_fmt (pv 3)) (.cons pe_str (.cons (pe_fmt (pv 4)) .nil))))))
      (pss_one (ps_ret (joinK K rfl (pe_join pe_str (pe_op op_cat (pv 2) (pe_lc (own := [("name", 3), ("truth", 6)]) (g := gTup K 2 (gCons (gName 3) (gCons (gName 6) gNil))) (by rfl) sc_in_words.nd (pi_listK K rfl (pv 1)) (blkOk_by (own := [("name", 3), ("truth", 6)]) (N := ["numbers", "truths", "words", "name", "number", "untold", "truth"]) (sc := defScope s_in_words) (by decide +kernel)) (fun _ _ _ _ _ => (pg_tup rfl (pgs_cons (pg_name (i := 3) sc_in_words.nd rfl (Or.inl rfl)) (pgs_cons (pg_name (i := 6) sc_in_words.nd rfl (Or.inl rfl)) pgs_nil)))) (fun _ _ _ _ _ => (pts_one (pt_val (pv 6)))) (fun _ _ _ _ _ => (pv 3))))))))), ?_⟩
  refine fn0 (K := K) (mg := mg) (N := ["numbers", "truths", "words", "name", "number", "untold", "truth"]) (R := rS) (prm_cons (prm_cons prm_nil)) (fun J I vs b h => by rw [(lenC (lenC len0)) J I vs b h]; decide) (Γn := fun _ _ => []) (Γl := fun _ _ => []) (fun b => (sb_set (Nat.le_of_ble_eq_true rfl) (se_lc (si_list (se_var rfl)) (sg_tup (sgs_cons (sgs_cons (sgs_cons sgs_nil))) (lenC (lenC (lenC len0)))) (by rfl) (by rfl) (fun x1 => (st_test (se_op ro_neO (se_var rfl) (se_var rfl)))) (fun x1 => (se_joined (.cons (sj_fs (se_var rfl)) (.cons se_str (.cons (sj_fi (SE.get (se_var rfl))) .nil)))))) (fun v2 =>
      (sb_ret (se_m1 ro_join se_str (se_op ro_cat (se_var rfl) (se_lc (si_list (se_var rfl)) (sg_tup (sgs_cons (sgs_cons sgs_nil)) (lenC (lenC len0))) (by rfl) (by rfl) (fun x3 => (st_val (se_var rfl))) (fun x3 => (se_var rfl))))))))) ?_ h
  intro b P h
  simp only [decide_eq_true_eq, D.bind, D.pure, D.need, D.any, D.nox] at h ⊢
  obtain ⟨⟨h1, h2, l1, l2⟩, h⟩ := h
  have hs : 1000000 ≤ sizeLine := by decide
  refine compD_fun (fun x : NT => !decide (x.r.2.1 = x.r.2.2.1)) (fun x : NT => wtext (tw x.r.1 x.r.2.1)) _ _ _ (fun _ _ _ q => q) (fun x hx e Q q => ?_) ?_
  · obtain ⟨ln, hn⟩ := h1 x hx
    obtain ⟨n, en, n0, n1⟩ := hn (by simpa using e)
    have o1 := strI_ok (k := 100) n0 n1 (by decide)
    have o2 := len_num (k := 100) (by decide) n0 n1
    have ls : (Str.ofString " ").length = 1 := by decide
    simp only [D.bind, D.pure, D.need, emp_app]
    have q' : Q (x.r.1 ++ Str.ofString " " ++ nT n) := by
      have : wtext (tw x.r.1 x.r.2.1) = x.r.1 ++ Str.ofString " " ++ nT n := by rw [en]; rfl
      rw [← this]
      exact q
    refine ⟨by omega, by rw [My.len_app]; omega, n, en, o1, ?_, q'⟩
    rw [My.len_app, My.len_app]
    omega
  · refine compD_fun (fun x : BT => x.r.2.1) (fun x : BT => x.r.1) _ _ _ (fun _ _ _ q => q) (fun _ _ _ _ q => q) ?_
    have e : ((b.1.filter fun x : NT => !decide (x.r.2.1 = x.r.2.2.1)).map fun x : NT => wtext (tw x.r.1 x.r.2.1)) ++ ((b.2.1.filter fun x : BT => x.r.2.1).map fun x : BT => x.r.1) = (inWs b.1 b.2.1).map wtext := by
      unfold inWs
      rw [List.map_append, List.map_map, List.map_map]
      rfl
    have la := List.length_filter_le (fun x : NT => !decide (x.r.2.1 = x.r.2.2.1)) b.1
    have lb := List.length_filter_le (fun x : BT => x.r.2.1) b.2.1
    rw [List.length_map, List.length_map]
    refine ⟨by omega, ?_, ?_⟩
    · rw [e]
      refine Lw.join_b (n := 40) (m := 130) ?_ (fun z hz => ?_) (by decide)
      · rw [← e, List.length_append, List.length_map, List.length_map]
        omega
      · rw [← e] at hz
        rcases List.mem_append.mp hz with hz | hz
        · obtain ⟨x, hx, rfl⟩ := List.mem_map.mp hz
          obtain ⟨hx1, hx2⟩ := List.mem_filter.mp hx
          obtain ⟨ln, hn⟩ := h1 x hx1
          obtain ⟨n, en, n0, n1⟩ := hn (by simpa using hx2)
          have o2 := len_num (k := 100) (by decide) n0 n1
          have ls : (Str.ofString " ").length = 1 := by decide
          rw [show wtext (tw x.r.1 x.r.2.1) = x.r.1 ++ Str.ofString " " ++ nT n by rw [en]; rfl, My.len_app, My.len_app]
          have : (nT n).length ≤ 100 := o2
          omega
        · obtain ⟨x, hx, rfl⟩ := List.mem_map.mp hz
          have := h2 x (List.mem_filter.mp hx).1
          omega
    · rw [e]
      exact h

theorem ok_Wish_spelled (T : Txt K mg) : FnOk P w K mg base CX0 2 T.f_Wish_spelled T.fd_Wish_spelled ["self"] (spF0 (rsC (r_Wish T) rs0) rS fun b => D.need (okWish b.1) (D.pure (spellW b.1))) := by
  refine T.d_Wish_spelled.F.ok sc_Wish_spelled (fun vs H Q E h => ?_) (fun cdv A outer s H vs Q E hr h => ?_)
  · obtain ⟨I, b, P, s, rp, _⟩ := h
    exact (lenC len0) _ _ _ _ rp
  refine ⟨_, (pss_cons (ps_set (i := 1) sc_Wish_spelled.nd rfl (.inl rfl) (pe_lst (pa_cons (pe_tup (pa_cons pe_str (pa_cons (pe_fldK K rfl (pv 0) rfl) (pa_cons pe_non pa_nil)))) (pa_cons (pe_tup (pa_cons pe_str (pa_cons (pe_fldK K rfl (pv 0) rfl) (pa_cons pe_int pa_nil)))) (pa_cons (pe_tup (pa_cons pe_str (pa_cons (pe_fldK K rfl (pv 0) rfl) (pa_cons pe_int pa_nil)))) pa_nil)))))
      (pss_cons (ps_set (i := 2) sc_Wish_spelled.nd rfl (.inl rfl) (pe_lst (pa_cons (pe_tup (pa_cons pe_str (pa_cons (pe_fldK K rfl (pv 0) rfl) pa_nil))) (pa_cons (pe_tup (pa_cons pe_str (pa_cons (pe_fldK K rfl (pv 0) rfl) pa_nil))) (pa_cons (pe_tup (pa_cons pe_str (pa_cons (pe_fldK K rfl (pv 0) rfl) pa_nil))) pa_nil)))))
      (pss_one (ps_ret (pe_call (ok_in_words T) (hr.mono (by decide)) (by rfl) T.d_in_words.g T.d_in_words.F.kp T.d_in_words.b .nil pass0 (pa_cons (pv 1) (pa_cons (pv 2) pa_nil))))))), ?_⟩
  refine fn0 (K := K) (mg := mg) (N := ["self", "numbers", "truths"]) (R := rS) (prm_cons prm_nil) (fun J I vs b h => by rw [(lenC len0) J I vs b h]; decide) (Γn := fun _ _ => []) (Γl := fun _ _ => []) (fun b => (sb_set (Nat.le_of_ble_eq_true rfl) (se_lstn (ln_cons (se_tu 3 (sa_cons se_str (sa_cons (se_fld (fld_Wish_atmost T) (se_var rfl)) (sa_cons se_noneO sa_nil))) (lenC (lenC (lenC len0)))) (ln_cons (se_tu 3 (sa_cons se_str (sa_cons (SE.map co_some_int (se_fld (fld_Wish_left T) (se_var rfl))) (sa_cons (SE.map co_some_int se_int) sa_nil))) (lenC (lenC (lenC len0)))) (ln_cons (se_tu 3 (sa_cons se_str (sa_cons (SE.map co_some_int (se_fld (fld_Wish_worn T) (se_var rfl))) (sa_cons (SE.map co_some_int se_int) sa_nil))) (lenC (lenC (lenC len0)))) ln_nil)))) (fun v1 =>
      (sb_set (Nat.le_of_ble_eq_true rfl) (se_lstn (ln_cons (se_tu 2 (sa_cons se_str (sa_cons (se_fld (fld_Wish_anew T) (se_var rfl)) sa_nil)) (lenC (lenC len0))) (ln_cons (se_tu 2 (sa_cons se_str (sa_cons (se_fld (fld_Wish_kept T) (se_var rfl)) sa_nil)) (lenC (lenC len0))) (ln_cons (se_tu 2 (sa_cons se_str (sa_cons (se_fld (fld_Wish_firm T) (se_var rfl)) sa_nil)) (lenC (lenC len0))) ln_nil)))) (fun v2 =>
      (sb_ret (se_call0 (sa_cons (se_var rfl) (sa_cons (se_var rfl) sa_nil))))))))) ?_ h
  intro b P h
  simp only [decide_eq_true_eq, D.bind, D.pure, D.need, D.any, D.nox] at h ⊢
  obtain ⟨h1, h⟩ := h
  exact ⟨⟨wNum_ok h1, wTru_ok b.1, Nat.le_of_ble_eq_true rfl, Nat.le_of_ble_eq_true rfl⟩, h⟩

theorem ok_read_wish (T : Txt K mg) : FnOk P w K mg base (L2.CX P w) 5 T.f_read_wish T.fd_read_wish ["text"] (spF K mg (rsC rS rs0) (r_Wish T) fun b => rdWish b.1) := by
  refine T.d_read_wish.F.okX sc_read_wish (fun vs H Q E h => ?_) (fun cdv A outer s H vs Q E hr h => ?_)
  · obtain ⟨I, b, P, X, s, rp, _⟩ := h
    exact (lenC len0) _ _ _ _ rp
  refine ⟨_, (pss_cons (ps_set (i := 1) sc_read_wish.nd rfl (.inl rfl) (pe_call (ok_words_told T) (hr.mono (by decide)) (by rfl) T.d_words_told.g T.d_words_told.F.kp T.d_words_told.b .nil pass0 (pa_cons (pv 0) pa_nil)))
      (pss_cons (ps_set (i := 2) sc_read_wish.nd rfl (.inl rfl) (pe_call (ok_first_wrong T) (hr.mono (by decide)) (by rfl) T.d_first_wrong.g T.d_first_wrong.F.kp T.d_first_wrong.b .nil pass0 (pa_cons (pv 1) (pa_cons (pe_glob (v := .ref T.a_WISH_NUMBERS) (by rfl) T.g_WISH_NUMBERS rfl) (pa_cons (pe_glob (v := .ref T.a_WISH_TRUTHS) (by rfl) T.g_WISH_TRUTHS rfl) pa_nil)))))
      (pss_cons (ps_if (pt_cmpR op_notN (pv 2) pe_non (nomark _))
      (pss_one (ps_raise rfl (takes_of rfl rfl rfl rfl) (pmk_oex T.ox_NoWish T.ii_NoWish T.ti_NoWish (ok_NoWish_init T) (hr.mono (by decide)) T.d_NoWish_init.b .nil pass0 (by rfl) T.g_NoWish (pa_cons (pv 2) pa_nil))))
      pss_nil)
      (pss_one (ps_ret (pe_makeK0 T.mk_Wish (ok_Wish_init T) (hr.mono (by decide)) (by rfl) T.g_Wish T.kb_0.choose_spec pass0 (pk_cons (pe_callBK (minDfK K rfl rfl hr.units) (by rfl) T.m_min (by decide +kernel) (pa_cons (pe_call (ok_numbers_told T) (hr.mono (by decide)) (by rfl) T.d_numbers_told.g T.d_numbers_told.F.kp T.d_numbers_told.b .nil pass0 (pa_cons (pv 1) (pa_cons pe_str pa_nil))) pa_nil) (pk_cons pe_non pk_nil)) (pk_cons (pe_callBK (maxDfK K rfl rfl hr.units) (by rfl) T.m_max (by decide +kernel) (pa_cons (pe_call (ok_numbers_told T) (hr.mono (by decide)) (by rfl) T.d_numbers_told.g T.d_numbers_told.F.kp T.d_numbers_told.b .nil pass0 (pa_cons (pv 1) (pa_cons pe_str pa_nil))) pa_nil) (pk_cons pe_int pk_nil)) (pk_cons (pe_callBK (minDfK K rfl rfl hr.units) (by rfl) T.m_min (by decide +kernel) (pa_cons (pe_call (ok_numbers_told T) (hr.mono (by decide)) (by rfl) T.d_numbers_told.g T.d_numbers_told.F.kp T.d_numbers_told.b .nil pass0 (pa_cons (pv 1) (pa_cons pe_str pa_nil))) pa_nil) (pk_cons pe_int pk_nil)) (pk_cons (pe_call (ok_is_told T) (hr.mono (by decide)) (by rfl) T.d_is_told.g T.d_is_told.F.kp T.d_is_told.b .nil pass0 (pa_cons (pv 1) (pa_cons pe_str pa_nil))) (pk_cons (pe_call (ok_is_told T) (hr.mono (by decide)) (by rfl) T.d_is_told.g T.d_is_told.F.kp T.d_is_told.b .nil pass0 (pa_cons (pv 1) (pa_cons pe_str pa_nil))) (pk_cons (pe_call (ok_is_told T) (hr.mono (by decide)) (by rfl) T.d_is_told.g T.d_is_told.F.kp T.d_is_told.b .nil pass0 (pa_cons (pv 1) (pa_cons pe_str pa_nil))) pk_nil)))))))))))), ?_⟩
  refine fnX (K := K) (mg := mg) (N := ["text", "words", "wrong"]) (R := (r_Wish T)) (prm_cons prm_nil) (fun J I vs b h => by rw [(lenC len0) J I vs b h]; decide) (Γn := fun _ _ => []) (Γl := fun _ _ => []) (fun b => (sb_set (Nat.le_of_ble_eq_true rfl) (se_call0 (sa_cons (se_var rfl) sa_nil)) (fun v1 =>
      (sb_set (Nat.le_of_ble_eq_true rfl) (se_call0 (sa_cons (se_var rfl) (sa_cons (se_tc (zs := ["atmost", "left", "worn"]) T.q_WISH_NUMBERS (by decide)) (sa_cons (se_tc (zs := ["anew", "kept", "firm"]) T.q_WISH_TRUTHS (by decide)) sa_nil)))) (fun v2 =>
      (sb_ifq (st_test (se_op ro_notN (se_var rfl) se_non))
      (sb_raise (cn := "NoWish") (f := "at") T.g_NoWish (se_var rfl))
      (sb_ret (se_mkK (f := fun (a : Unit) (b : (Option Int) × Int × Int × Bool × Bool × Bool × Unit) => (b.1, b.2.1, b.2.2.1, b.2.2.2.1, b.2.2.2.2.1, b.2.2.2.2.2.1, ())) len0 (lenC (lenC (lenC (lenC (lenC (lenC len0)))))) (fun _ _ _ => rfl) (by intro _ _ _ a b h1 h2; obtain rfl := h1; obtain ⟨_, _, rfl, p_atmost, ⟨_, _, rfl, p_left, ⟨_, _, rfl, p_worn, ⟨_, _, rfl, p_anew, ⟨_, _, rfl, p_kept, ⟨_, _, rfl, p_firm, rfl⟩⟩⟩⟩⟩⟩ := h2; exact ⟨_, _, rfl, p_atmost, ⟨_, _, rfl, p_left, ⟨_, _, rfl, p_worn, ⟨_, _, rfl, p_anew, ⟨_, _, rfl, p_kept, ⟨_, _, rfl, p_firm, rfl⟩⟩⟩⟩⟩⟩) sa_nil (sa_cons (se_ck ro_dfN (sa_cons (SE.getAll (se_call0 (sa_cons (SE.getAll (se_var rfl)) (sa_cons se_str sa_nil)))) sa_nil) (sa_cons se_non sa_nil)) (sa_cons (se_ck ro_df (sa_cons (SE.getAll (se_call0 (sa_cons (SE.getAll (se_var rfl)) (sa_cons se_str sa_nil)))) sa_nil) (sa_cons se_int sa_nil)) (sa_cons (se_ck ro_df (sa_cons (SE.getAll (se_call0 (sa_cons (SE.getAll (se_var rfl)) (sa_cons se_str sa_nil)))) sa_nil) (sa_cons se_int sa_nil)) (sa_cons (se_call0 (sa_cons (se_var rfl) (sa_cons se_str sa_nil))) (sa_cons (se_call0 (sa_cons (se_var rfl) (sa_cons se_str sa_nil))) (sa_cons (se_call0 (sa_cons (se_var rfl) (sa_cons se_str sa_nil))) sa_nil)))))))))))))) ?_ h
  intro b P X h
  simp only [decide_eq_true_eq, D.bind, D.pure, D.need, D.any, D.nox] at h ⊢
  obtain ⟨hl, h1, h2⟩ := h
  refine ⟨hl, ?_⟩
  show if (Option.map Int.ofNat (wrongT wNs wTs (wordsT b.1))).isSome = true then X ⟨"NoWish", [("at", ToD.enc K (rO Lx.rI) (Option.map Int.ofNat (wrongT wNs wTs (wordsT b.1))))]⟩ else _
  cases hw : wrongT wNs wTs (wordsT b.1) with
  | some i => exact h2 i hw
  | none =>
    obtain ⟨ds, e, hs⟩ := words_all hw
    have q := h1 ds e hs
    refine iteF ?_
    refine ⟨ds, e, _, nums_some hs (show ("atmost" : Str) ∈ wNs by decide), ds, e, _, nums_some hs (show ("left" : Str) ∈ wNs by decide), ds, e, _, nums_some hs (show ("worn" : Str) ∈ wNs by decide), ?_⟩
    rw [e]
    simp only [told_some]
    exact q

theorem ok_within (T : Txt K mg) : FnOk P w K mg base CX0 1 T.f_within T.fd_within ["span", "size"] (spF0 (rsC (rTu K (rsC (rO rI) (rsC (rO rI) rs0))) (rsC rI rs0)) (rTu K (rsC rI (rsC rI rs0))) fun b => D.need (good5 (unS b.1)) (D.pure (tu2 (wi b.2.1 (unS b.1))))) := by
  refine T.d_within.F.ok sc_within (fun vs H Q E h => ?_) (fun cdv A outer s H vs Q E hr h => ?_)
  · obtain ⟨I, b, P, s, rp, _⟩ := h
    exact (lenC (lenC len0)) _ _ _ _ rp
  refine ⟨_, (pss_cons (ps_asg (pv 0) (pg_tup rfl (pgs_cons (pg_name (i := 2) sc_within.nd rfl (.inl rfl)) (pgs_cons (pg_name (i := 3) sc_within.nd rfl (.inl rfl)) pgs_nil))))
      (pss_cons (ps_if (pt_cmpR op_isN (pv 2) pe_non (nomark _))
      (pss_one (ps_ret (pe_tup (pa_cons (pe_callB (call_max2 rfl) (by rfl) T.m_max (by decide +kernel) (pa_cons pe_int (pa_cons (pe_op op_sub (pv 1) (pv 3)) pa_nil))) (pa_cons (pv 1) pa_nil)))))
      pss_nil)
      (pss_cons (ps_if (pt_cmpR op_isN (pv 3) pe_non (nomark _))
      (pss_one (ps_ret (pe_tup (pa_cons (pv 2) (pa_cons (pv 1) pa_nil)))))
      pss_nil)
      (pss_one (ps_ret (pe_tup (pa_cons (pv 2) (pa_cons (pe_callB (call_min2 rfl) (by rfl) T.m_min (by decide +kernel) (pa_cons (pv 3) (pa_cons (pv 1) pa_nil))) pa_nil)))))))), ?_⟩
  refine fn0 (K := K) (mg := mg) (N := ["span", "size", "start", "stop"]) (R := (rTu K (rsC rI (rsC rI rs0)))) (prm_cons (prm_cons prm_nil)) (fun J I vs b h => by rw [(lenC (lenC len0)) J I vs b h]; decide) (Γn := fun _ _ => []) (Γl := fun _ _ => []) (fun b => (sb_asg (sg_tup (sgs_cons (sgs_cons sgs_nil)) (lenC (lenC len0))) rfl (se_var rfl) (fun v1 =>
      (sb_ifq (st_test (se_op ro_isN (se_var rfl) se_non))
      (sb_ret (se_tu 2 (sa_cons (se_cb ro_max2 (sa_cons se_int (sa_cons (se_op ro_sub (se_var rfl) (SE.get (se_var rfl))) sa_nil))) (sa_cons (se_var rfl) sa_nil)) (lenC (lenC len0))))
      (sb_ifq (st_test (se_op ro_isN (se_var rfl) se_non))
      (sb_ret (se_tu 2 (sa_cons (SE.get (se_var rfl)) (sa_cons (se_var rfl) sa_nil)) (lenC (lenC len0))))
      (sb_ret (se_tu 2 (sa_cons (SE.get (se_var rfl)) (sa_cons (se_cb ro_min2 (sa_cons (SE.get (se_var rfl)) (sa_cons (se_var rfl) sa_nil))) sa_nil)) (lenC (lenC len0))))))))) ?_ h
  intro b P h
  simp only [decide_eq_true_eq, D.bind, D.pure, D.need, D.any, D.nox] at h ⊢
  obtain ⟨⟨lo, hi, u⟩, sz, u2⟩ := b
  obtain ⟨hg, h⟩ := h
  dsimp only [unS] at hg h ⊢
  cases lo with
  | none =>
    cases hi with
    | none => exact hg.elim
    | some n =>
      refine ite2 (fun _ => ⟨n, rfl, ?_⟩) (fun e => absurd rfl e)
      have e : max 0 (sz - n) = (if sz - n > 0 then sz - n else 0) := by split <;> omega
      rw [e]
      exact h
  | some a =>
    refine iteF ?_
    cases hi with
    | none => exact ite2 (fun _ => ⟨a, rfl, h⟩) (fun e => absurd rfl e)
    | some n =>
      refine iteF ⟨a, rfl, n, rfl, ?_⟩
      have e : min n sz = (if sz < n then sz else n) := by split <;> omega
      rw [e]
      exact h
theorem ok_merged (T : Txt K mg) : FnOk P w K mg base CX0 1 T.f_merged T.fd_merged ["pairs"] (spL (rsC (rL (rTu K (rsC rI (rsC rI rs0)))) rs0) (rTu K (rsC rI (rsC rI rs0))) fun b => D.need (b.1.length ≤ 2000) (D.pure ((mrg (b.1.map un2)).map tu2))) := by
  refine T.d_merged.F.ok sc_merged (fun vs H Q E h => ?_) (fun cdv A outer s H vs Q E hr h => ?_)
  · obtain ⟨I, b, P, s, rp, _⟩ := h
    exact (lenC len0) _ _ _ _ rp
  refine ⟨_, (pss_cons (ps_set (i := 1) sc_merged.nd rfl (.inl rfl) (pe_lst pa_nil))
      (pss_cons (ps_for PassesOwn.never rfl (pi_listK K rfl (pe_callB (cr_sortAny K rfl hr.units) (by rfl) T.m_sorted (by decide +kernel) (pa_cons (pe_lc (own := [("pair", 4)]) (g := gName 4) (by rfl) sc_merged.nd (pi_listK K rfl (pv 0)) (blkOk_by (own := [("pair", 4)]) (N := ["pairs", "found", "start", "stop", "pair"]) (sc := defScope s_merged) (by decide +kernel)) (fun _ _ _ _ _ => (pg_name (i := 4) sc_merged.nd rfl (Or.inl rfl))) (fun _ _ _ _ _ => (pts_one (pt_cmpR op_lt (pe_ix (ixTK K rfl) (pv 4) pe_int (fun _ _ => rfl)) (pe_ix (ixTK K rfl) (pv 4) pe_int (fun _ _ => rfl)) (nomark _)))) (fun _ _ _ _ _ => (pv 4))) pa_nil))) (pg_tup rfl (pgs_cons (pg_name (i := 2) sc_merged.nd rfl (.inl rfl)) (pgs_cons (pg_name (i := 3) sc_merged.nd rfl (.inl rfl)) pgs_nil)))
      (pss_one (ps_if (PW.pt (pw_and (pt_truth (pv 1) (by intro _; rfl)) (pw_and1 (pt_cmpR op_le (pv 2) (pe_ix (ixTK K rfl) (pe_ix (ixLK K rfl) (pv 1) (pe_un un_neg pe_int) (fun _ _ => rfl)) pe_int (fun _ _ => rfl)) (nomark _)))))
      (pss_one (ps_asg (pe_tup (pa_cons (pe_ix (ixTK K rfl) (pe_ix (ixLK K rfl) (pv 1) (pe_un un_neg pe_int) (fun _ _ => rfl)) pe_int (fun _ _ => rfl)) (pa_cons (pe_callB (call_max2 rfl) (by rfl) T.m_max (by decide +kernel) (pa_cons (pe_ix (ixTK K rfl) (pe_ix (ixLK K rfl) (pv 1) (pe_un un_neg pe_int) (fun _ _ => rfl)) pe_int (fun _ _ => rfl)) (pa_cons (pv 3) pa_nil))) pa_nil))) (pg_sub (pv 1) (pe_un un_neg pe_int) set_list)))
      (pss_one (ps_expr (bmK K rfl (pe_bm PySem.F.plainAttrs_list PySem.F.slot_list_append PySem.F.type_list_append mt_append (pv 1) (pa_cons (pe_tup (pa_cons (pv 2) (pa_cons (pv 3) pa_nil))) pa_nil))))))))
      (pss_one (ps_ret (pv 1))))), ?_⟩
  refine fnL (K := K) (mg := mg) (N := ["pairs", "found", "start", "stop", "pair"]) (A := (rTu K (rsC rI (rsC rI rs0)))) (prm_cons prm_nil) (fun J I vs b h => by rw [(lenC len0) J I vs b h]; decide) (Γn := fun _ _ => []) (Γl := fun _ _ => []) (fun b => (sb_nilL (rTu K (rsC rI (rsC rI rs0))) (Nat.le_of_ble_eq_true rfl)
      (sb_loop (s0 := []) (fun s : (List (Tu (Int × Int × Unit))) => [⟨.l (rTu K (rsC rI (rsC rI rs0))), 1, s⟩, ⟨.x, 2, ()⟩, ⟨.x, 3, ()⟩]) (si_list (SN.se (sn_cb rn_sorted (sa_cons (se_lc (si_list (se_var rfl)) sg_name (by rfl) (by rfl) (fun x1 => (st_test (se_op ro_lt (se_tu0 (se_var rfl)) (se_tu1 (se_var rfl))))) (fun x1 => (se_var rfl))) sa_nil)))) (sg_tup (sgs_cons (sgs_cons sgs_nil)) (lenC (lenC len0))) rfl ⟨.inr rfl, .inl rfl, .inl rfl, trivial⟩ (fun x3 s2 =>
      (sb_if (st_and (st_truthL (se_varl rfl)) (st_test (se_op ro_le (se_var rfl) (se_tu1 (se_op ro_ixL (se_varl rfl) (se_un ro_neg se_int))))))
      (sb_end (sb_setI rfl (se_tu 2 (sa_cons (se_tu0 (se_op ro_ixL (se_varl rfl) (se_un ro_neg se_int))) (sa_cons (se_cb ro_max2 (sa_cons (se_tu1 (se_op ro_ixL (se_varl rfl) (se_un ro_neg se_int))) (sa_cons (se_var rfl) sa_nil))) sa_nil)) (lenC (lenC len0))) (se_un ro_neg se_int) (fun v4 =>
      (sb_nextK (ρ := fun s : (List (Tu (Int × Int × Unit))) => [⟨.l (rTu K (rsC rI (rsC rI rs0))), 1, s⟩, ⟨.x, 2, ()⟩, ⟨.x, 3, ()⟩]) (s := v4) 6 rfl rfl ⟨.inr rfl, .inl rfl, .inl rfl, trivial⟩))))
      (sb_end (sb_app rfl (se_tu 2 (sa_cons (se_var rfl) (sa_cons (se_var rfl) sa_nil)) (lenC (lenC len0))) (fun v5 =>
      (sb_nextK (ρ := fun s : (List (Tu (Int × Int × Unit))) => [⟨.l (rTu K (rsC rI (rsC rI rs0))), 1, s⟩, ⟨.x, 2, ()⟩, ⟨.x, 3, ()⟩]) (s := (s2 ++ [v5])) 6 rfl rfl ⟨.inr rfl, .inl rfl, .inl rfl, trivial⟩))))))
      (fun s6 => (sb_retL rfl))))) ?_ h
  intro b P h
  simp only [decide_eq_true_eq, D.bind, D.pure, D.need, D.any, D.nox] at h ⊢
  obtain ⟨hl, h⟩ := h
  refine compD_fun (fun x => decide (x.r.1 < x.r.2.1)) (fun x => x) _ _ _ (fun _ _ _ q => q) (fun _ _ _ _ q => q) ?_
  rw [List.map_id']
  generalize hF : b.1.filter (fun x => decide (x.r.1 < x.r.2.1)) = F
  have lF : F.length ≤ 2000 := by
    have := List.length_filter_le (fun x : Tu (Int × Int × Unit) => decide (x.r.1 < x.r.2.1)) b.1
    rw [hF] at this
    omega
  refine forD_fold (fun i s => s.length ≤ i) stepM 2000 _ 0 [] (by rw [(sortD_perm _ F).length_eq]; omega) (Nat.le_refl _) (fun x _ i s hi hI => ?_) ?_
  · have hs : ∀ s : List (Tu (Int × Int × Unit)), s = [] ∨ ∃ r q, s = r ++ [q] := fun s => by
      rcases List.eq_nil_or_concat s with e | ⟨r, q, e⟩
      · exact .inl e
      · exact .inr ⟨r, q, by rw [e]; simp⟩
    have hs' : 100000 ≤ sizeLine := by decide
    rcases hs s with rfl | ⟨r, q, rfl⟩
    · exact ⟨by show 1 ≤ i + 1; omega, fun k hk => iteF (iteF ⟨by decide, hk⟩)⟩
    · have es : stepM (r ++ [q]) x = if x.r.1 ≤ q.r.2.1 then r ++ [⟨q.r.1, max q.r.2.1 x.r.2.1, ()⟩] else r ++ [q] ++ [⟨x.r.1, x.r.2.1, ()⟩] := by
        unfold stepM
        rw [List.map_append, List.reverse_append, List.map_singleton, List.reverse_singleton, List.singleton_append, stepR_cons]
        show ((if x.r.1 ≤ q.r.2.1 then _ else _ : List (Int × Int)).reverse).map tu2 = _
        have e : (if (un2 x).2 > (un2 q).2 then (un2 x).2 else (un2 q).2) = max q.r.2.1 x.r.2.1 := by
          show (if x.r.2.1 > q.r.2.1 then x.r.2.1 else q.r.2.1) = _
          split <;> omega
        rw [e]
        by_cases c : x.r.1 ≤ q.r.2.1
        · rw [if_pos c, if_pos c, List.reverse_cons, List.reverse_reverse, List.map_append, tu2_un2]
          rfl
        · rw [if_neg c, if_neg c, List.reverse_cons, List.reverse_cons, List.reverse_reverse, List.map_append, List.map_append, tu2_un2]
          rfl
      rw [es]
      have al := Ls.atI_last r q
      refine ⟨?_, fun k hk => ?_⟩
      · rw [List.length_append, List.length_singleton] at hI
        split <;> simp only [List.length_append, List.length_singleton] <;> omega
      · have ne : (!(r ++ [q]).isEmpty) = true := by cases r <;> rfl
        rw [ne, if_pos rfl]
        refine ⟨q, al, ite2 (fun c => ?_) (fun c => ?_)⟩
        · rw [if_pos c] at hk
          refine ⟨q, al, q, al, r.length, by rw [List.length_append, List.length_singleton]; exact ixN_last _, ?_⟩
          rw [set_last]
          exact hk
        · rw [if_neg c] at hk
          exact ⟨by omega, hk⟩
  · rw [foldM, sort_srt]
    have e : F.map un2 = (b.1.map un2).filter fun p => decide (p.1 < p.2) := by
      rw [← hF, List.filter_map]
      rfl
    rw [e]
    exact h
theorem ok_stretches (T : Txt K mg) : FnOk P w K mg base CX0 2 T.f_stretches T.fd_stretches ["spans", "size"] (spL (rsC (rQ K (rTu K (rsC (rO rI) (rsC (rO rI) rs0)))) (rsC rI rs0)) (rTu K (rsC rI (rsC rI rs0))) fun b => D.need (b.1.l.length ≤ 1000 ∧ ∀ s ∈ b.1.l, good5 (unS s)) (D.pure ((strT (b.1.l.map unS) b.2.1).map tu2))) := by
  refine T.d_stretches.F.ok sc_stretches (fun vs H Q E h => ?_) (fun cdv A outer s H vs Q E hr h => ?_)
  · obtain ⟨I, b, P, s, rp, _⟩ := h
    exact (lenC (lenC len0)) _ _ _ _ rp
  refine ⟨_, (pss_cons (ps_if (pt_cmpR op_eq (pe_callB (lenK K rfl) (by rfl) T.m_len (by decide +kernel) (pa_cons (pv 0) pa_nil)) pe_int (nomark _))
      (pss_one (ps_ret (pe_call (ok_merged T) (hr.mono (by decide)) (by rfl) T.d_merged.g T.d_merged.F.kp T.d_merged.b .nil pass0 (pa_cons (pe_lst (pa_cons (pe_tup (pa_cons pe_int (pa_cons (pv 1) pa_nil))) pa_nil)) pa_nil))))
      pss_nil)
      (pss_one (ps_ret (pe_call (ok_merged T) (hr.mono (by decide)) (by rfl) T.d_merged.g T.d_merged.F.kp T.d_merged.b .nil pass0 (pa_cons (pe_lc (own := [("span", 2)]) (g := gName 2) (tt := tYes) (by rfl) sc_stretches.nd (pi_seqK K rfl (pv 0)) (blkOk_by (own := [("span", 2)]) (N := ["spans", "size", "span"]) (sc := defScope s_stretches) (by decide +kernel)) (fun _ _ _ _ _ => (pg_name (i := 2) sc_stretches.nd rfl (Or.inl rfl))) (fun _ _ _ _ _ => pts_nil) (fun _ _ _ _ _ => (pe_call (ok_within T) (hr.mono (by decide)) (by rfl) T.d_within.g T.d_within.F.kp T.d_within.b .nil pass0 (pa_cons (pv 2) (pa_cons (pv 1) pa_nil))))) pa_nil))))), ?_⟩
  refine fnL (K := K) (mg := mg) (N := ["spans", "size", "span"]) (A := (rTu K (rsC rI (rsC rI rs0)))) (prm_cons (prm_cons prm_nil)) (fun J I vs b h => by rw [(lenC (lenC len0)) J I vs b h]; decide) (Γn := fun _ _ => []) (Γl := fun _ _ => []) (fun b => (sb_ifq (st_test (se_op ro_eqI (se_cb ro_lenQ (sa_cons (se_var rfl) sa_nil)) se_int))
      (sb_retSN (sn_callL (sa_cons (se_lstn (ln_cons (se_tu 2 (sa_cons se_int (sa_cons (se_var rfl) sa_nil)) (lenC (lenC len0))) ln_nil)) sa_nil)))
      (sb_retSN (sn_callL (sa_cons (se_lc (si_seq (se_var rfl)) sg_name (by rfl) (by rfl) (fun x1 => st_yes) (fun x1 => (se_call0 (sa_cons (se_var rfl) (sa_cons (se_var rfl) sa_nil))))) sa_nil))))) ?_ h
  intro b P h
  simp only [decide_eq_true_eq, D.bind, D.pure, D.need, D.any, D.nox] at h ⊢
  obtain ⟨⟨hl, hg⟩, h⟩ := h
  obtain ⟨⟨l⟩, sz, u⟩ := b
  dsimp only at hl hg h ⊢
  unfold strT at h
  refine ite2 (fun e => ?_) (fun e => ?_)
  · cases l with
    | nil =>
      rw [List.map_nil, if_pos rfl] at h
      exact ⟨by show 1 ≤ 2000; decide, h⟩
    | cons a r =>
      rw [List.length_cons] at e
      omega
  · cases l with
    | nil => exact absurd rfl e
    | cons a r =>
      rw [if_neg (by rw [List.map_cons]; exact fun z => nomatch z)] at h
      generalize hq : a :: r = q at *
      refine compD_fun (fun _ => true) (fun x => tu2 (wi sz (unS x))) _ _ _ (fun _ _ _ q => q) (fun x hx _ Q q => ⟨hg x hx, q⟩) ?_
      rw [List.filter_eq_self.mpr (fun _ _ => rfl)]
      refine ⟨by rw [List.length_map]; omega, ?_⟩
      have e2 : (q.map fun x => tu2 (wi sz (unS x))).map un2 = (q.map unS).map (wi sz) := by
        rw [List.map_map, List.map_map]
        rfl
      rw [e2]
      exact h

end
end My
namespace My
open PySem PySem.Spec PyProof.Rows L2 TL
open Lx hiding ints_of paired_app paired_at Wd
open Lw Ls Mo Ak
section
variable {P : Program} {w : World} {K : PySem.W.Frag} {mg : Str → Option Value} {base : Heap}
theorem ok_is_whole (T : Txt K mg) : FnOk P w K mg base CX0 1 T.f_is_whole T.fd_is_whole ["thing"] (spF0 (rsC rI rs0) rB fun b => D.pure true) := by
  refine T.d_is_whole.F.ok sc_is_whole (fun vs H Q E h => ?_) (fun cdv A outer s H vs Q E hr h => ?_)
  · obtain ⟨I, b, P, s, rp, _⟩ := h
    exact (lenC len0) _ _ _ _ rp
  refine ⟨_, (pss_one (ps_ret (pe_and (pe_callB (isiK K rfl) (by rfl) T.m_isinstance (by decide +kernel) (pa_cons (pv 0) (pa_cons (pe_bltn (v := .ty "int") (by rfl) T.m_int (by decide +kernel) rfl) pa_nil))) (pe_one (pe_not (pe_callB (isiK K rfl) (by rfl) T.m_isinstance (by decide +kernel) (pa_cons (pv 0) (pa_cons (pe_bltn (v := .ty "bool") (by rfl) T.m_bool (by decide +kernel) rfl) pa_nil)))))))), ?_⟩
  refine fn0 (K := K) (mg := mg) (N := ["thing"]) (R := rB) (prm_cons prm_nil) (fun J I vs b h => by rw [(lenC len0) J I vs b h]; decide) (Γn := fun _ _ => []) (Γl := fun _ _ => []) (fun b => (sb_ret (se_andp (se_isi (b := true) tyx_I (by decide +kernel) (se_var rfl)) (se_not (se_isi (b := false) tyx_I (by decide +kernel) (se_var rfl)))))) ?_ h
  intro b P h
  exact h
theorem ok_is_bound (T : Txt K mg) : FnOk P w K mg base CX0 2 T.f_is_bound T.fd_is_bound ["thing"] (spF0 (rsC (rO rI) rs0) rB fun b => D.pure (bndB b.1)) := by
  refine T.d_is_bound.F.ok sc_is_bound (fun vs H Q E h => ?_) (fun cdv A outer s H vs Q E hr h => ?_)
  · obtain ⟨I, b, P, s, rp, _⟩ := h
    exact (lenC len0) _ _ _ _ rp
  refine ⟨_, (pss_one (ps_ret (pe_or (pe_cmpR op_isN (pv 0) pe_non (nomark _)) (pe_one (pe_and (pe_call (ok_is_whole T) (hr.mono (by decide)) (by rfl) T.d_is_whole.g T.d_is_whole.F.kp T.d_is_whole.b .nil pass0 (pa_cons (pv 0) pa_nil)) (pe_one (pe_cmpR op_ge (pv 0) pe_int (nomark _)))))))), ?_⟩
  refine fn0 (K := K) (mg := mg) (N := ["thing"]) (R := rB) (prm_cons prm_nil) (fun J I vs b h => by rw [(lenC len0) J I vs b h]; decide) (Γn := fun _ _ => []) (Γl := fun _ _ => []) (fun b => (sb_ret (se_or (se_op ro_isN (se_var rfl) se_non) (se_and (se_call0 (sa_cons (SE.get (se_var rfl)) sa_nil)) (se_op ro_ge (SE.get (se_var rfl)) se_int))))) ?_ h
  intro b P h
  simp only [decide_eq_true_eq, D.bind, D.pure, D.need, D.any, D.nox] at h ⊢
  exact bnd_eq b.1 h
theorem ok_are_ends (T : Txt K mg) : FnOk P w K mg base CX0 1 T.f_are_ends T.fd_are_ends ["start", "stop"] (spF0 (rsC (rO rI) (rsC (rO rI) rs0)) rB fun b => D.pure (edgB b.1 b.2.1)) := by
  refine T.d_are_ends.F.ok sc_are_ends (fun vs H Q E h => ?_) (fun cdv A outer s H vs Q E hr h => ?_)
  · obtain ⟨I, b, P, s, rp, _⟩ := h
    exact (lenC (lenC len0)) _ _ _ _ rp
  refine ⟨_, (pss_cons (ps_if (pt_cmpR op_isN (pv 0) pe_non (nomark _))
      (pss_one (ps_ret (pe_and (pe_cmpR op_notN (pv 1) pe_non (nomark _)) (pe_one (pe_cmpR op_gt (pv 1) pe_int (nomark _))))))
      pss_nil)
      (pss_one (ps_ret (pe_or (pe_cmpR op_isN (pv 1) pe_non (nomark _)) (pe_one (pe_cmpR op_lt (pv 0) (pv 1) (nomark _))))))), ?_⟩
  refine fn0 (K := K) (mg := mg) (N := ["start", "stop"]) (R := rB) (prm_cons (prm_cons prm_nil)) (fun J I vs b h => by rw [(lenC (lenC len0)) J I vs b h]; decide) (Γn := fun _ _ => []) (Γl := fun _ _ => []) (fun b => (sb_ifq (st_test (se_op ro_isN (se_var rfl) se_non))
      (sb_ret (se_and (se_op ro_notN (se_var rfl) se_non) (se_op ro_gt (SE.get (se_var rfl)) se_int)))
      (sb_ret (se_or (se_op ro_isN (se_var rfl) se_non) (se_op ro_lt (SE.get (se_var rfl)) (SE.get (se_var rfl))))))) ?_ h
  intro b P h
  simp only [decide_eq_true_eq, D.bind, D.pure, D.need, D.any, D.nox] at h ⊢
  exact end_eq b.1 b.2.1 h
theorem ok_is_span (T : Txt K mg) : FnOk P w K mg base CX0 3 T.f_is_span T.fd_is_span ["thing"] (spF0 (rsC (rTu K (rsC (rO rI) (rsC (rO rI) rs0))) rs0) rB fun b => D.pure (spanB b.1)) := by
  refine T.d_is_span.F.ok sc_is_span (fun vs H Q E h => ?_) (fun cdv A outer s H vs Q E hr h => ?_)
  · obtain ⟨I, b, P, s, rp, _⟩ := h
    exact (lenC len0) _ _ _ _ rp
  refine ⟨_, (pss_cons (ps_if (PW.pt (pw_or (pt_not (pt_val (pe_callB (isiK K rfl) (by rfl) T.m_isinstance (by decide +kernel) (pa_cons (pv 0) (pa_cons (pe_bltn (v := .ty "tuple") (by rfl) T.m_tuple (by decide +kernel) rfl) pa_nil))))) (pw_or1 (pt_cmpR op_ne (pe_callB (lenK K rfl) (by rfl) T.m_len (by decide +kernel) (pa_cons (pv 0) pa_nil)) pe_int (nomark _)))))
      (pss_one (ps_ret pe_bl))
      pss_nil)
      (pss_cons (ps_asg (pv 0) (pg_tup rfl (pgs_cons (pg_name (i := 1) sc_is_span.nd rfl (.inl rfl)) (pgs_cons (pg_name (i := 2) sc_is_span.nd rfl (.inl rfl)) pgs_nil))))
      (pss_one (ps_ret (pe_and (pe_call (ok_is_bound T) (hr.mono (by decide)) (by rfl) T.d_is_bound.g T.d_is_bound.F.kp T.d_is_bound.b .nil pass0 (pa_cons (pv 1) pa_nil)) (pe_and (pe_call (ok_is_bound T) (hr.mono (by decide)) (by rfl) T.d_is_bound.g T.d_is_bound.F.kp T.d_is_bound.b .nil pass0 (pa_cons (pv 2) pa_nil)) (pe_one (pe_call (ok_are_ends T) (hr.mono (by decide)) (by rfl) T.d_are_ends.g T.d_are_ends.F.kp T.d_are_ends.b .nil pass0 (pa_cons (pv 1) (pa_cons (pv 2) pa_nil)))))))))), ?_⟩
  refine fn0 (K := K) (mg := mg) (N := ["thing", "start", "stop"]) (R := rB) (prm_cons prm_nil) (fun J I vs b h => by rw [(lenC len0) J I vs b h]; decide) (Γn := fun _ _ => []) (Γl := fun _ _ => []) (fun b => (sb_ifq (st_orp (st_not (st_val (se_isi (b := true) tyx_Tu (by decide +kernel) (se_var rfl)))) (st_test (se_op ro_neI (se_cb (ro_lenTu (lenC (lenC len0))) (sa_cons (se_var rfl) sa_nil)) se_int)))
      (sb_ret se_bl)
      (sb_asg (sg_tup (sgs_cons (sgs_cons sgs_nil)) (lenC (lenC len0))) rfl (se_var rfl) (fun v1 =>
      (sb_ret (se_andp (se_call0 (sa_cons (se_var rfl) sa_nil)) (se_andp (se_call0 (sa_cons (se_var rfl) sa_nil)) (se_call0 (sa_cons (se_var rfl) (sa_cons (se_var rfl) sa_nil)))))))))) ?_ h
  intro b P h
  simp only [decide_eq_true_eq, D.bind, D.pure, D.need, D.any, D.nox] at h ⊢
  exact iteF' (by decide) h
theorem ok_is_worth (T : Txt K mg) : FnOk P w K mg base CX0 2 T.f_is_worth T.fd_is_worth ["text"] (spF0 (rsC rS rs0) rB fun b => D.pure (worthB b.1)) := by
  refine T.d_is_worth.F.ok sc_is_worth (fun vs H Q E h => ?_) (fun cdv A outer s H vs Q E hr h => ?_)
  · obtain ⟨I, b, P, s, rp, _⟩ := h
    exact (lenC len0) _ _ _ _ rp
  refine ⟨_, (pss_one (ps_ret (pe_call (ok_is_made_of T) (hr.mono (by decide)) (by rfl) T.d_is_made_of.g T.d_is_made_of.F.kp T.d_is_made_of.b .nil pass0 (pa_cons (pv 0) (pa_cons (pe_glob (v := .str "abcdefghijklmnopqrstuvwxyz0123456789-") (by rfl) T.g_WORTH_SIGNS ⟨_, rfl⟩) (pa_cons pe_int (pa_cons (pe_glob (v := .int 12) (by rfl) T.g_LONGEST_WORTH ⟨_, rfl⟩) pa_nil))))))), ?_⟩
  refine fn0 (K := K) (mg := mg) (N := ["text"]) (R := rB) (prm_cons prm_nil) (fun J I vs b h => by rw [(lenC len0) J I vs b h]; decide) (Γn := fun _ _ => []) (Γl := fun _ _ => []) (fun b => (sb_ret (se_call0 (sa_cons (se_var rfl) (sa_cons se_str (sa_cons se_int (sa_cons se_int sa_nil))))))) ?_ h
  intro b P h
  exact h
theorem ok_is_path (T : Txt K mg) : FnOk P w K mg base CX0 3 T.f_is_path T.fd_is_path ["text"] (spF0 (rsC rS rs0) rB fun b => D.need (b.1.length ≤ 20000) (D.pure (pathB b.1))) := by
  refine T.d_is_path.F.ok sc_is_path (fun vs H Q E h => ?_) (fun cdv A outer s H vs Q E hr h => ?_)
  · obtain ⟨I, b, P, s, rp, _⟩ := h
    exact (lenC len0) _ _ _ _ rp
  refine ⟨_, (pss_cons (ps_if (pt_not (pt_val (pe_callB (isiK K rfl) (by rfl) T.m_isinstance (by decide +kernel) (pa_cons (pv 0) (pa_cons (pe_bltn (v := .ty "str") (by rfl) T.m_str (by decide +kernel) rfl) pa_nil)))))
      (pss_one (ps_ret pe_bl))
      pss_nil)
      (pss_cons (ps_set (i := 1) sc_is_path.nd rfl (.inl rfl) (pe_split (pv 0) pe_str))
      (pss_one (ps_ret (pe_and (pe_cmpR op_le (pe_callB (lenK K rfl) (by rfl) T.m_len (by decide +kernel) (pa_cons (pv 1) pa_nil)) (pe_glob (v := .int 4) (by rfl) T.g_MOST_NAMES ⟨_, rfl⟩) (nomark _)) (pe_one (pe_callB (allK K rfl rfl) (by rfl) T.m_all (by decide +kernel) (pa_cons (pe_lc (own := [("name", 2)]) (g := gName 2) (tt := tYes) (by rfl) sc_is_path.nd (pi_listK K rfl (pv 1)) (blkOk_by (own := [("name", 2)]) (N := ["text", "names", "name"]) (sc := defScope s_is_path) (by decide +kernel)) (fun _ _ _ _ _ => (pg_name (i := 2) sc_is_path.nd rfl (Or.inl rfl))) (fun _ _ _ _ _ => pts_nil) (fun _ _ _ _ _ => (pe_call (ok_is_name T) (hr.mono (by decide)) (by rfl) T.d_is_name.g T.d_is_name.F.kp T.d_is_name.b .nil pass0 (pa_cons (pv 2) pa_nil)))) pa_nil)))))))), ?_⟩
  refine fn0 (K := K) (mg := mg) (N := ["text", "names", "name"]) (R := rB) (prm_cons prm_nil) (fun J I vs b h => by rw [(lenC len0) J I vs b h]; decide) (Γn := fun _ _ => []) (Γl := fun _ _ => []) (fun b => (sb_ifq (st_not (st_val (se_isi (b := true) tyx_S (by decide +kernel) (se_var rfl))))
      (sb_ret se_bl)
      (sb_set (Nat.le_of_ble_eq_true rfl) (se_m1 ro_split2 (se_var rfl) se_str) (fun v1 =>
      (sb_ret (se_and (se_op ro_le (se_cb ro_lenL (sa_cons (se_var rfl) sa_nil)) se_int) (se_cb ro_all (sa_cons (se_lc (si_list (se_var rfl)) sg_name (by rfl) (by rfl) (fun x2 => st_yes) (fun x2 => (se_call0 (sa_cons (se_var rfl) sa_nil)))) sa_nil)))))))) ?_ h
  intro b P h
  simp only [decide_eq_true_eq, D.bind, D.pure, D.need, D.any, D.nox] at h ⊢
  obtain ⟨hl, h⟩ := h
  have zs : sizeLine = 16777216 := by decide
  refine iteF' (by simp) ⟨⟨by decide, by decide, by decide +kernel, by omega⟩, ?_⟩
  unfold pathB at h
  refine ite2 (fun e => ?_) (fun e => ?_)
  · rw [decide_eq_true (show (Txt.split b.1 (Str.ofString "/")).length ≤ 4 by omega), Bool.true_and] at h
    refine compD_fun (fun _ => true) nameB _ _ _ (fun _ _ _ q => q) (fun _ _ _ _ q => q) ?_
    rw [List.filter_eq_self.mpr (fun _ _ => rfl), List.all_map]
    exact h
  · rw [decide_eq_false (show ¬ (Txt.split b.1 (Str.ofString "/")).length ≤ 4 by omega), Bool.false_and] at h
    exact h
theorem ok_is_mark (T : Txt K mg) : FnOk P w K mg base CX0 3 T.f_is_mark T.fd_is_mark ["text"] (spF0 (rsC rS rs0) rB fun b => D.pure (mkB b.1)) := by
  refine T.d_is_mark.F.ok sc_is_mark (fun vs H Q E h => ?_) (fun cdv A outer s H vs Q E hr h => ?_)
  · obtain ⟨I, b, P, s, rp, _⟩ := h
    exact (lenC len0) _ _ _ _ rp
  refine ⟨_, (pss_cons (ps_if (pt_not (pt_val (pe_callB (isiK K rfl) (by rfl) T.m_isinstance (by decide +kernel) (pa_cons (pv 0) (pa_cons (pe_bltn (v := .ty "str") (by rfl) T.m_str (by decide +kernel) rfl) pa_nil)))))
      (pss_one (ps_ret pe_bl))
      pss_nil)
      (pss_one (ps_ret (pe_and (pe_cmpR (inK K rfl) (pe_slice sl_str (pv 0) po_none (po_some pe_int)) (pe_tup (pa_cons pe_str (pa_cons pe_str pa_nil))) rfl) (pe_one (pe_call (ok_is_figures T) (hr.mono (by decide)) (by rfl) T.d_is_figures.g T.d_is_figures.F.kp T.d_is_figures.b .nil pass0 (pa_cons (pe_slice sl_str (pv 0) (po_some pe_int) po_none) pa_nil))))))), ?_⟩
  refine fn0 (K := K) (mg := mg) (N := ["text"]) (R := rB) (prm_cons prm_nil) (fun J I vs b h => by rw [(lenC len0) J I vs b h]; decide) (Γn := fun _ _ => []) (Γl := fun _ _ => []) (fun b => (sb_ifq (st_not (st_val (se_isi (b := true) tyx_S (by decide +kernel) (se_var rfl))))
      (sb_ret se_bl)
      (sb_ret (se_andp (se_op ro_inST (se_sl ro_slS (se_var rfl) sp_none (sp_some se_int)) (SE.map co_tuT (se_tu 2 (sa_cons se_str (sa_cons se_str sa_nil)) (lenC (lenC len0))))) (se_call0 (sa_cons (se_sl ro_slS (se_var rfl) (sp_some se_int) sp_none) sa_nil)))))) ?_ h
  intro b P h
  simp only [decide_eq_true_eq, D.bind, D.pure, D.need, D.any, D.nox] at h ⊢
  exact iteF' (by simp) h
theorem ok_is_strong (T : Txt K mg) : FnOk P w K mg base CX0 1 T.f_is_strong T.fd_is_strong ["mark"] (spF0 (rsC rS rs0) rB fun b => D.need (mkB b.1 = true) (D.pure (strongB b.1))) := by
  refine T.d_is_strong.F.ok sc_is_strong (fun vs H Q E h => ?_) (fun cdv A outer s H vs Q E hr h => ?_)
  · obtain ⟨I, b, P, s, rp, _⟩ := h
    exact (lenC len0) _ _ _ _ rp
  refine ⟨_, (pss_one (ps_ret (pe_cmpR op_eq (pe_ix ix_str (pv 0) pe_int (fun _ _ => rfl)) pe_str (nomark _)))), ?_⟩
  refine fn0 (K := K) (mg := mg) (N := ["mark"]) (R := rB) (prm_cons prm_nil) (fun J I vs b h => by rw [(lenC len0) J I vs b h]; decide) (Γn := fun _ _ => []) (Γl := fun _ _ => []) (fun b => (sb_ret (se_op ro_eqS (se_op ro_ixS (se_var rfl) se_int) se_str))) ?_ h
  intro b P h
  simp only [decide_eq_true_eq, D.bind, D.pure, D.need, D.any, D.nox] at h ⊢
  obtain ⟨hm, h⟩ := h
  obtain ⟨c, r, e⟩ := mk_ne hm
  refine ⟨c, by rw [e]; exact atI_nat (j := 0) rfl, ?_⟩
  show P (decide ((⟨#[c]⟩ : Str) = Str.ofString "s"))
  rw [strong_eq e]
  exact h
theorem ok_heads_row (T : Txt K mg) : FnOk P w K mg base CX0 1 T.f_heads_row T.fd_heads_row ["heads"] (spF0 (rsC (rK Sum.inr rS) rs0) (rT K (rTu K (rsC rS (rsC rS rs0)))) fun b => D.need (b.1.length ≤ 1000 ∧ ∀ p ∈ b.1, Asc p.1 ∧ p.1.length ≤ 1000) (D.pure ⟨sortD (DatO.enc K (rTu K (rsC rS (rsC rS rs0)))) (rowD b.1)⟩)) := by
  refine T.d_heads_row.F.ok sc_heads_row (fun vs H Q E h => ?_) (fun cdv A outer s H vs Q E hr h => ?_)
  · obtain ⟨I, b, P, s, rp, _⟩ := h
    exact (lenC len0) _ _ _ _ rp
  refine ⟨_, (pss_one (ps_ret (pe_callTy (tupleK K rfl) (by rfl) T.m_tuple (by decide +kernel) (pa_cons (pe_callB (cr_sortAny K rfl hr.units) (by rfl) T.m_sorted (by decide +kernel) (pa_cons (pe_lock (pe_lc (own := [("name", 1), ("worth", 2)]) (g := gTup K 2 (gCons (gName 1) (gCons (gName 2) gNil))) (by rfl) sc_heads_row.nd (pi_items (pv 0)) (blkOk_by (own := [("name", 1), ("worth", 2)]) (N := ["heads", "name", "worth"]) (sc := defScope s_heads_row) (by decide +kernel)) (fun _ _ _ _ _ => (pg_tup rfl (pgs_cons (pg_name (i := 1) sc_heads_row.nd rfl (Or.inl rfl)) (pgs_cons (pg_name (i := 2) sc_heads_row.nd rfl (Or.inl rfl)) pgs_nil)))) (fun _ _ _ _ _ => (pts_one (pt_cmpR op_ne (pv 2) pe_str (nomark _)))) (fun _ _ _ _ _ => (pe_tup (pa_cons (pv 1) (pa_cons (pv 2) pa_nil)))))) pa_nil)) pa_nil)))), ?_⟩
  refine fn0 (K := K) (mg := mg) (N := ["heads", "name", "worth"]) (R := (rT K (rTu K (rsC rS (rsC rS rs0))))) (prm_cons prm_nil) (fun J I vs b h => by rw [(lenC len0) J I vs b h]; decide) (Γn := fun _ _ => []) (Γl := fun _ _ => []) (fun b => (sb_ret (se_cb ro_tupL (sa_cons (SN.se (sn_cb rn_sorted (sa_cons (se_lockV (kf := Sum.inr) (B := rS) (i := 0) (d := b.1) flS rfl (se_lc (si_itemsV (kf := Sum.inr) (B := rS) (i := 0) (d := b.1) flS kd_S rfl) (sg_tup (sgs_cons (sgs_cons sgs_nil)) (lenC (lenC len0))) (by rfl) (by rfl) (fun x1 => (st_test (se_op ro_neS (se_var rfl) se_str))) (fun x1 => (se_tu 2 (sa_cons (se_var rfl) (sa_cons (se_var rfl) sa_nil)) (lenC (lenC len0)))))) sa_nil))) sa_nil)))) ?_ h
  intro b P h
  simp only [decide_eq_true_eq, D.bind, D.pure, D.need, D.any, D.nox] at h ⊢
  obtain ⟨⟨hl, hk⟩, h⟩ := h
  have zs : sizeLine = 16777216 := by decide
  refine ⟨by omega, fun p hp => ⟨(hk p hp).1, by have := (hk p hp).2; omega⟩, ?_⟩
  refine compD_fun (fun x : Hd => !decide (x.r.2.1 = Str.ofString "")) (fun x : Hd => x) _ _ _ (fun _ _ _ q => q) (fun _ _ _ _ q => q) ?_
  rw [List.map_id']
  exact h
theorem ok_NoAsk_init (T : Txt K mg) : FnOk P w K mg base CX0 1 T.f_NoAsk_init T.fd_NoAsk_init ["self", "why"] (Lx.spEI "why" T.C_NoAsk) := by
  refine T.d_NoAsk_init.F.ok sc_NoAsk_init (fun vs H Q E h => ?_) (fun cdv A outer s H vs Q E hr h => ?_)
  · obtain ⟨a, y, rfl, _⟩ := h
    rfl
  · obtain ⟨a, y, rfl, h, q⟩ := h
    refine ⟨_, pss_one (ps_ost (pv 0) (pv 1)), ?_⟩
    exact ⟨y, rfl, .ref a, rfl, a, T.C_NoAsk, rfl, T.ox_NoAsk, T.na_NoAsk, .inl ⟨h, fun dx h1 h2 => q dx h1 h2⟩⟩

end
end My
namespace My
open PySem PySem.Spec PyProof.Rows L2 TL
open Lx hiding ints_of paired_app paired_at Wd
open Lw Ls Mo Ak
section
variable {P : Program} {w : World} {K : PySem.W.Frag} {mg : Str → Option Value} {base : Heap}
theorem ok_wrong_in_ask (T : Txt K mg) : FnOk P w K mg base CX0 4 T.f_wrong_in_ask T.fd_wrong_in_ask ["path", "heads", "spans", "unless", "when"] (spF0 (rsC rS (rsC (rK Sum.inr rS) (rsC (rQ K (rTu K (rsC (rO rI) (rsC (rO rI) rs0)))) (rsC (rQ K rS) (rsC (rO rS) rs0))))) (rO rS) fun b => D.need (b.1.length ≤ 20000 ∧ b.2.1.length ≤ 1000 ∧ ∀ p ∈ b.2.1, Asc p.1 ∧ p.1.length ≤ 1000) (D.pure (wrongA b.1 b.2.1 b.2.2.1.l b.2.2.2.1.l b.2.2.2.2.1))) := by
  refine T.d_wrong_in_ask.F.ok sc_wrong_in_ask (fun vs H Q E h => ?_) (fun cdv A outer s H vs Q E hr h => ?_)
  · obtain ⟨I, b, P, s, rp, _⟩ := h
    exact (lenC (lenC (lenC (lenC (lenC len0))))) _ _ _ _ rp
  refine ⟨_, (pss_cons (ps_if (pt_not (pt_val (pe_call (ok_is_path T) (hr.mono (by decide)) (by rfl) T.d_is_path.g T.d_is_path.F.kp T.d_is_path.b .nil pass0 (pa_cons (pv 0) pa_nil))))
      (pss_one (ps_ret pe_str))
      pss_nil)
      (pss_cons (ps_if (pt_not (pt_val (pe_callB (allK K rfl rfl) (by rfl) T.m_all (by decide +kernel) (pa_cons (pe_lock (pe_lc (own := [("name", 5), ("worth", 6)]) (g := gTup K 2 (gCons (gName 5) (gCons (gName 6) gNil))) (tt := tYes) (by rfl) sc_wrong_in_ask.nd (pi_items (pv 1)) (blkOk_by (own := [("name", 5), ("worth", 6)]) (N := ["path", "heads", "spans", "unless", "when", "name", "worth", "span", "mark"]) (sc := defScope s_wrong_in_ask) (by decide +kernel)) (fun _ _ _ _ _ => (pg_tup rfl (pgs_cons (pg_name (i := 5) sc_wrong_in_ask.nd rfl (Or.inl rfl)) (pgs_cons (pg_name (i := 6) sc_wrong_in_ask.nd rfl (Or.inl rfl)) pgs_nil)))) (fun _ _ _ _ _ => pts_nil) (fun _ _ _ _ _ => (pe_and (pe_call (ok_is_name T) (hr.mono (by decide)) (by rfl) T.d_is_name.g T.d_is_name.F.kp T.d_is_name.b .nil pass0 (pa_cons (pv 5) pa_nil)) (pe_one (pe_call (ok_is_worth T) (hr.mono (by decide)) (by rfl) T.d_is_worth.g T.d_is_worth.F.kp T.d_is_worth.b .nil pass0 (pa_cons (pv 6) pa_nil))))))) pa_nil))))
      (pss_one (ps_ret pe_str))
      pss_nil)
      (pss_cons (ps_if (pt_not (pt_val (pe_callB (allK K rfl rfl) (by rfl) T.m_all (by decide +kernel) (pa_cons (pe_lc (own := [("span", 7)]) (g := gName 7) (tt := tYes) (by rfl) sc_wrong_in_ask.nd (pi_seqK K rfl (pv 2)) (blkOk_by (own := [("span", 7)]) (N := ["path", "heads", "spans", "unless", "when", "name", "worth", "span", "mark"]) (sc := defScope s_wrong_in_ask) (by decide +kernel)) (fun _ _ _ _ _ => (pg_name (i := 7) sc_wrong_in_ask.nd rfl (Or.inl rfl))) (fun _ _ _ _ _ => pts_nil) (fun _ _ _ _ _ => (pe_call (ok_is_span T) (hr.mono (by decide)) (by rfl) T.d_is_span.g T.d_is_span.F.kp T.d_is_span.b .nil pass0 (pa_cons (pv 7) pa_nil)))) pa_nil))))
      (pss_one (ps_ret pe_str))
      pss_nil)
      (pss_cons (ps_if (pt_not (pt_val (pe_callB (allK K rfl rfl) (by rfl) T.m_all (by decide +kernel) (pa_cons (pe_lc (own := [("mark", 8)]) (g := gName 8) (tt := tYes) (by rfl) sc_wrong_in_ask.nd (pi_seqK K rfl (pv 3)) (blkOk_by (own := [("mark", 8)]) (N := ["path", "heads", "spans", "unless", "when", "name", "worth", "span", "mark"]) (sc := defScope s_wrong_in_ask) (by decide +kernel)) (fun _ _ _ _ _ => (pg_name (i := 8) sc_wrong_in_ask.nd rfl (Or.inl rfl))) (fun _ _ _ _ _ => pts_nil) (fun _ _ _ _ _ => (pe_call (ok_is_mark T) (hr.mono (by decide)) (by rfl) T.d_is_mark.g T.d_is_mark.F.kp T.d_is_mark.b .nil pass0 (pa_cons (pv 8) pa_nil)))) pa_nil))))
      (pss_one (ps_ret pe_str))
      pss_nil)
      (pss_cons (ps_if (PW.pt (pw_and (pt_cmpR op_notN (pv 4) pe_non (nomark _)) (pw_and1 (pt_not (pt_val (pe_call (ok_is_mark T) (hr.mono (by decide)) (by rfl) T.d_is_mark.g T.d_is_mark.F.kp T.d_is_mark.b .nil pass0 (pa_cons (pv 4) pa_nil)))))))
      (pss_one (ps_ret pe_str))
      pss_nil)
      (pss_one (ps_ret pe_non))))))), ?_⟩
  refine fn0 (K := K) (mg := mg) (N := ["path", "heads", "spans", "unless", "when", "name", "worth", "span", "mark"]) (R := (rO rS)) (prm_cons (prm_cons (prm_cons (prm_cons (prm_cons prm_nil))))) (fun J I vs b h => by rw [(lenC (lenC (lenC (lenC (lenC len0))))) J I vs b h]; decide) (Γn := fun _ _ => []) (Γl := fun _ _ => []) (fun b => (sb_ifq (st_not (st_val (se_call0 (sa_cons (se_var rfl) sa_nil))))
      (sb_ret (SE.map co_some_str se_str))
      (sb_ifq (st_not (st_val (se_cb ro_all (sa_cons (se_lockV (kf := Sum.inr) (B := rS) (i := 1) (d := b.2.1) flS rfl (se_lc (si_itemsV (kf := Sum.inr) (B := rS) (i := 1) (d := b.2.1) flS kd_S rfl) (sg_tup (sgs_cons (sgs_cons sgs_nil)) (lenC (lenC len0))) (by rfl) (by rfl) (fun x1 => st_yes) (fun x1 => (se_andp (se_call0 (sa_cons (se_var rfl) sa_nil)) (se_call0 (sa_cons (se_var rfl) sa_nil)))))) sa_nil))))
      (sb_ret (SE.map co_some_str se_str))
      (sb_ifq (st_not (st_val (se_cb ro_all (sa_cons (se_lc (si_seq (se_var rfl)) sg_name (by rfl) (by rfl) (fun x2 => st_yes) (fun x2 => (se_call0 (sa_cons (se_var rfl) sa_nil)))) sa_nil))))
      (sb_ret (SE.map co_some_str se_str))
      (sb_ifq (st_not (st_val (se_cb ro_all (sa_cons (se_lc (si_seq (se_var rfl)) sg_name (by rfl) (by rfl) (fun x3 => st_yes) (fun x3 => (se_call0 (sa_cons (se_var rfl) sa_nil)))) sa_nil))))
      (sb_ret (SE.map co_some_str se_str))
      (sb_ifq (st_and (st_test (se_op ro_notN (se_var rfl) se_non)) (st_not (st_val (se_call0 (sa_cons (SE.get (se_var rfl)) sa_nil)))))
      (sb_ret (SE.map co_some_str se_str))
      (sb_ret se_noneO))))))) ?_ h
  intro b P h
  simp only [decide_eq_true_eq, D.bind, D.pure, D.need, D.any, D.nox] at h ⊢
  obtain ⟨p, d, sp, un, wh, u⟩ := b
  dsimp only at h ⊢
  obtain ⟨⟨hl, hd, hk⟩, h⟩ := h
  have zs : sizeLine = 16777216 := by decide
  unfold wrongA at h
  refine ⟨hl, ite2 (fun e => ?_) (fun e => ?_)⟩
  · rw [if_pos (show pathB p = false by simpa using e)] at h
    exact h
  rw [if_neg (show ¬ pathB p = false by simpa using e)] at h
  refine ⟨by omega, fun q hq => ⟨(hk q hq).1, by have := (hk q hq).2; omega⟩, ?_⟩
  refine compD_fun (fun _ => true) (fun x1 : Hd => nameB x1.r.fst && worthB x1.r.snd.fst) _ _ _ (fun _ _ _ q => q) (fun _ _ _ _ q => q) ?_
  rw [List.filter_eq_self.mpr (fun _ _ => rfl), List.map_map, List.all_map]
  have e1 : (d.all (id ∘ ((fun x1 : Hd => nameB x1.r.fst && worthB x1.r.snd.fst) ∘ fun p => { r := (p.fst, p.snd, ()) }))) = hdsB d := rfl
  rw [e1]
  refine ite2 (fun e => ?_) (fun e => ?_)
  · rw [if_pos (show hdsB d = false by simpa using e)] at h
    exact h
  rw [if_neg (show ¬ hdsB d = false by simpa using e)] at h
  refine compD_fun (fun _ => true) spanB _ _ _ (fun _ _ _ q => q) (fun _ _ _ _ q => q) ?_
  rw [List.filter_eq_self.mpr (fun _ _ => rfl), List.all_map]
  refine ite2 (fun e => ?_) (fun e => ?_)
  · rw [if_pos (show sp.l.all spanB = false from by simpa using e)] at h
    exact h
  rw [if_neg (show ¬ sp.l.all spanB = false from by simpa using e)] at h
  refine compD_fun (fun _ => true) mkB _ _ _ (fun _ _ _ q => q) (fun _ _ _ _ q => q) ?_
  rw [List.filter_eq_self.mpr (fun _ _ => rfl), List.all_map]
  refine ite2 (fun e => ?_) (fun e => ?_)
  · rw [if_pos (show un.l.all mkB = false from by simpa using e)] at h
    exact h
  rw [if_neg (show ¬ un.l.all mkB = false from by simpa using e)] at h
  cases wh with
  | none => exact iteF' (by simp) (iteF' (by simp) h)
  | some m =>
    refine iteT' rfl ⟨m, rfl, ite2 (fun e => ?_) (fun e => ?_)⟩
    · dsimp only at h
      rw [if_pos (show mkB m = false by simpa using e)] at h
      exact h
    · dsimp only at h
      rw [if_neg (show ¬ mkB m = false by simpa using e)] at h
      exact h
theorem ok_Ask_wants_whole (T : Txt K mg) : FnOk P w K mg base CX0 2 T.f_Ask_wants_whole T.fd_Ask_wants_whole ["self", "mark"] (spF0 (rsC (r_Ask T) (rsC rS rs0)) rB fun b => D.need (∀ m, b.1.when = some m → mkB m = true) (D.pure (wholeA b.1 b.2.1))) := by
  refine T.d_Ask_wants_whole.F.ok sc_Ask_wants_whole (fun vs H Q E h => ?_) (fun cdv A outer s H vs Q E hr h => ?_)
  · obtain ⟨I, b, P, s, rp, _⟩ := h
    exact (lenC (lenC len0)) _ _ _ _ rp
  refine ⟨_, (pss_cons (ps_if (pt_cmpR op_eq (pe_callB (lenK K rfl) (by rfl) T.m_len (by decide +kernel) (pa_cons (pe_fldK K rfl (pv 0) rfl) pa_nil)) pe_int (nomark _))
      (pss_one (ps_ret pe_bl))
      pss_nil)
      (pss_one (ps_ret (pe_and (pe_cmpR op_notN (pe_fldK K rfl (pv 0) rfl) pe_non (nomark _)) (pe_one (pe_or (pe_cmpR (neDK K rfl hr.units) (pe_fldK K rfl (pv 0) rfl) (pv 1) (nomark _)) (pe_one (pe_not (pe_call (ok_is_strong T) (hr.mono (by decide)) (by rfl) T.d_is_strong.g T.d_is_strong.F.kp T.d_is_strong.b .nil pass0 (pa_cons (pe_fldK K rfl (pv 0) rfl) pa_nil)))))))))), ?_⟩
  refine fn0 (K := K) (mg := mg) (N := ["self", "mark"]) (R := rB) (prm_cons (prm_cons prm_nil)) (fun J I vs b h => by rw [(lenC (lenC len0)) J I vs b h]; decide) (Γn := fun _ _ => []) (Γl := fun _ _ => []) (fun b => (sb_ifq (st_test (se_op ro_eqI (se_cb ro_lenT (sa_cons (se_fld (fld_Ask_spans T) (se_var rfl)) sa_nil)) se_int))
      (sb_ret se_bl)
      (sb_ret (se_and (se_op ro_notN (se_fld (fld_Ask_when T) (se_var rfl)) se_non) (se_or (se_op ro_neD (se_fld (fld_Ask_when T) (se_var rfl)) (SE.map co_some_str (se_var rfl))) (se_not (se_call0 (sa_cons (SE.get (se_fld (fld_Ask_when T) (se_var rfl))) sa_nil)))))))) ?_ h
  intro b P h
  simp only [decide_eq_true_eq, D.bind, D.pure, D.need, D.any, D.nox] at h ⊢
  obtain ⟨a, m, u⟩ := b
  dsimp only at h ⊢
  obtain ⟨hm, h⟩ := h
  unfold wholeA at h
  refine ite2 (fun e => ?_) (fun e => ?_)
  · have e2 : a.spans.l.isEmpty = true := List.isEmpty_iff.mpr (List.length_eq_zero_iff.mp (by omega))
    rw [e2, Bool.true_or] at h
    exact h
  · have e2 : a.spans.l.isEmpty = false := by
      cases z : a.spans.l with
      | nil => rw [z] at e; exact absurd rfl e
      | cons _ _ => rfl
    rw [e2, Bool.false_or] at h
    cases hw : a.when with
    | none =>
      rw [hw] at h
      exact iteF' (by simp) h
    | some k =>
      rw [hw] at h
      dsimp only at h
      refine iteT' rfl ?_
      by_cases z : k = m
      · subst z
        rw [decide_eq_true rfl, Bool.not_true, Bool.false_or] at h
        exact iteF' (by simp) ⟨k, rfl, hm k hw, h⟩
      · rw [decide_eq_false z, Bool.not_false, Bool.true_or] at h
        exact iteT' (by simpa using z) h

theorem ok_Ask_wanted (T : Txt K mg) : FnOk P w K mg base CX0 3 T.f_Ask_wanted T.fd_Ask_wanted ["self", "mark", "size"] (spL (rsC (r_Ask T) (rsC rS (rsC rI rs0))) (rTu K (rsC rI (rsC rI rs0))) fun b => D.need (OkAsk b.1) (D.pure ((wantA b.1 b.2.1 b.2.2.1).map tu2))) := by
  refine T.d_Ask_wanted.F.ok sc_Ask_wanted (fun vs H Q E h => ?_) (fun cdv A outer s H vs Q E hr h => ?_)
  · obtain ⟨I, b, P, s, rp, _⟩ := h
    exact (lenC (lenC (lenC len0))) _ _ _ _ rp
  refine ⟨_, (pss_cons (ps_if (pt_val (pe_meth (pv 0) T.cl_Ask T.me_Ask_wants_whole (ok_Ask_wants_whole T) (hr.mono (by decide)) T.d_Ask_wants_whole.b .nil pass0 (pa_cons (pv 1) pa_nil)))
      (pss_one (ps_ret (pe_call (ok_stretches T) (hr.mono (by decide)) (by rfl) T.d_stretches.g T.d_stretches.F.kp T.d_stretches.b .nil pass0 (pa_cons (pe_tup pa_nil) (pa_cons (pv 2) pa_nil)))))
      pss_nil)
      (pss_one (ps_ret (pe_call (ok_stretches T) (hr.mono (by decide)) (by rfl) T.d_stretches.g T.d_stretches.F.kp T.d_stretches.b .nil pass0 (pa_cons (pe_fldK K rfl (pv 0) rfl) (pa_cons (pv 2) pa_nil)))))), ?_⟩
  refine fnL (K := K) (mg := mg) (N := ["self", "mark", "size"]) (A := (rTu K (rsC rI (rsC rI rs0)))) (prm_cons (prm_cons (prm_cons prm_nil))) (fun J I vs b h => by rw [(lenC (lenC (lenC len0))) J I vs b h]; decide) (Γn := fun _ _ => []) (Γl := fun _ _ => []) (fun b => (sb_ifq (st_val (se_methF (ndo_Ask_wants_whole T) (se_var rfl) (sa_cons (se_var rfl) sa_nil)))
      (sb_retSN (sn_callL (sa_cons (SE.map co_tq (SE.map (co_tv0 (R := (rTu K (rsC (rO rI) (rsC (rO rI) rs0))))) (se_tu 0 sa_nil len0))) (sa_cons (se_var rfl) sa_nil))))
      (sb_retSN (sn_callL (sa_cons (SE.map co_tq (se_fld (fld_Ask_spans T) (se_var rfl))) (sa_cons (se_var rfl) sa_nil)))))) ?_ h
  intro b P h
  simp only [decide_eq_true_eq, D.bind, D.pure, D.need, D.any, D.nox] at h ⊢
  obtain ⟨ok, h⟩ := h
  unfold wantA at h
  refine ⟨ok.when, ite2 (fun e => ?_) (fun e => ?_)⟩
  · rw [if_pos e] at h
    exact ⟨⟨by decide, fun s hs => nomatch hs⟩, h⟩
  · rw [if_neg e] at h
    exact ⟨⟨ok.many, ok.span⟩, h⟩
theorem ok_Ask_word_for (T : Txt K mg) : FnOk P w K mg base CX0 4 T.f_Ask_word_for T.fd_Ask_word_for ["self", "mark", "size"] (spF0 (rsC (r_Ask T) (rsC (rO rS) (rsC rI rs0))) rS fun b => D.need (OkAsk b.1) (D.pure (wordA b.1 b.2.1 b.2.2.1))) := by
  refine T.d_Ask_word_for.F.ok sc_Ask_word_for (fun vs H Q E h => ?_) (fun cdv A outer s H vs Q E hr h => ?_)
  · obtain ⟨I, b, P, s, rp, _⟩ := h
    exact (lenC (lenC (lenC len0))) _ _ _ _ rp
  refine ⟨_, (pss_cons (ps_if (pt_cmpR op_isN (pv 1) pe_non (nomark _))
      (pss_one (ps_ret pe_str))
      pss_nil)
      (pss_cons (ps_if (pt_cmpR (inK K rfl) (pv 1) (pe_fldK K rfl (pv 0) rfl) rfl)
      (pss_one (ps_ret pe_str))
      pss_nil)
      (pss_cons (ps_if (pt_val (pe_meth (pv 0) T.cl_Ask T.me_Ask_wants_whole (ok_Ask_wants_whole T) (hr.mono (by decide)) T.d_Ask_wants_whole.b .nil pass0 (pa_cons (pv 1) pa_nil)))
      (pss_one (ps_ret pe_str))
      pss_nil)
      (pss_cons (ps_if (pt_cmpR op_eq (pe_callB (lenK K rfl) (by rfl) T.m_len (by decide +kernel) (pa_cons (pe_meth (pv 0) T.cl_Ask T.me_Ask_wanted (ok_Ask_wanted T) (hr.mono (by decide)) T.d_Ask_wanted.b .nil pass0 (pa_cons (pv 1) (pa_cons (pv 2) pa_nil))) pa_nil)) pe_int (nomark _))
      (pss_one (ps_ret pe_str))
      pss_nil)
      (pss_one (ps_ret pe_str)))))), ?_⟩
  refine fn0 (K := K) (mg := mg) (N := ["self", "mark", "size"]) (R := rS) (prm_cons (prm_cons (prm_cons prm_nil))) (fun J I vs b h => by rw [(lenC (lenC (lenC len0))) J I vs b h]; decide) (Γn := fun _ _ => []) (Γl := fun _ _ => []) (fun b => (sb_ifq (st_test (se_op ro_isN (se_var rfl) se_non))
      (sb_ret se_str)
      (sb_ifq (st_test (se_op ro_inST (SE.get (se_var rfl)) (se_fld (fld_Ask_unless T) (se_var rfl))))
      (sb_ret se_str)
      (sb_ifq (st_val (se_methF (ndo_Ask_wants_whole T) (se_var rfl) (sa_cons (SE.get (se_var rfl)) sa_nil)))
      (sb_ret se_str)
      (sb_ifq (st_test (se_op ro_eqI (se_cb ro_lenL (sa_cons (SN.se (sn_methL (ndo_Ask_wanted T) (se_var rfl) (sa_cons (SE.get (se_var rfl)) (sa_cons (se_var rfl) sa_nil)))) sa_nil)) se_int))
      (sb_ret se_str)
      (sb_ret se_str)))))) ?_ h
  intro b P h
  simp only [decide_eq_true_eq, D.bind, D.pure, D.need, D.any, D.nox] at h ⊢
  obtain ⟨a, m, n, u⟩ := b
  dsimp only at h ⊢
  obtain ⟨ok, h⟩ := h
  cases m with
  | none => exact iteT' rfl h
  | some k =>
    refine iteF' (by simp) ⟨k, rfl, ?_⟩
    unfold wordA at h
    dsimp only at h
    refine ite2 (fun e => ?_) (fun e => ⟨k, rfl, ok.when, ?_⟩)
    · rw [if_pos e] at h
      exact h
    rw [if_neg e] at h
    refine ite2 (fun e => ?_) (fun e => ⟨k, rfl, ok, ?_⟩)
    · rw [if_pos e] at h
      exact h
    rw [if_neg e] at h
    rw [List.length_map]
    refine ite2 (fun e => ?_) (fun e => ?_)
    · rw [if_pos (by omega)] at h
      exact h
    · rw [if_neg (by omega)] at h
      exact h
theorem ok_Ask_told (T : Txt K mg) : FnOk P w K mg base CX0 3 T.f_Ask_told T.fd_Ask_told ["self"] (spF0 (rsC (r_Ask T) rs0) (rTu K (rsC rS (rsC (rT K (rTu K (rsC rS (rsC rS rs0)))) (rsC (rT K (rTu K (rsC (rO rI) (rsC (rO rI) rs0)))) (rsC (rT K rS) (rsC (rO rS) (rsC rS rs0))))))) fun b => D.need (okWish b.1.wish) (D.pure ⟨(b.1.path, b.1.heads, b.1.spans, b.1.«unless», b.1.when, spellW b.1.wish, ())⟩)) := by
  refine T.d_Ask_told.F.ok sc_Ask_told (fun vs H Q E h => ?_) (fun cdv A outer s H vs Q E hr h => ?_)
  · obtain ⟨I, b, P, s, rp, _⟩ := h
    exact (lenC len0) _ _ _ _ rp
  refine ⟨_, (pss_one (ps_ret (pe_tup (pa_cons (pe_fldK K rfl (pv 0) rfl) (pa_cons (pe_fldK K rfl (pv 0) rfl) (pa_cons (pe_fldK K rfl (pv 0) rfl) (pa_cons (pe_fldK K rfl (pv 0) rfl) (pa_cons (pe_fldK K rfl (pv 0) rfl) (pa_cons (pe_meth0 (pe_fldK K rfl (pv 0) rfl) T.cl_Wish T.me_Wish_spelled (ok_Wish_spelled T) (hr.mono (by decide)) T.d_Wish_spelled.b .nil pass0) pa_nil))))))))), ?_⟩
  refine fn0 (K := K) (mg := mg) (N := ["self"]) (R := (rTu K (rsC rS (rsC (rT K (rTu K (rsC rS (rsC rS rs0)))) (rsC (rT K (rTu K (rsC (rO rI) (rsC (rO rI) rs0)))) (rsC (rT K rS) (rsC (rO rS) (rsC rS rs0)))))))) (prm_cons prm_nil) (fun J I vs b h => by rw [(lenC len0) J I vs b h]; decide) (Γn := fun _ _ => []) (Γl := fun _ _ => []) (fun b => (sb_ret (se_tu 6 (sa_cons (se_fld (fld_Ask_path T) (se_var rfl)) (sa_cons (se_fld (fld_Ask_heads T) (se_var rfl)) (sa_cons (se_fld (fld_Ask_spans T) (se_var rfl)) (sa_cons (se_fld (fld_Ask_unless T) (se_var rfl)) (sa_cons (se_fld (fld_Ask_when T) (se_var rfl)) (sa_cons (se_methF (ndo_Wish_spelled T) (se_fld (fld_Ask_wish T) (se_var rfl)) sa_nil) sa_nil)))))) (lenC (lenC (lenC (lenC (lenC (lenC len0))))))))) ?_ h
  intro b P h
  exact h
theorem ok_Ask_init (T : Txt K mg) : FnOk P w K mg base (L2.CX P w) 6 T.f_Ask_init T.fd_Ask_init ["self", "path", "heads", "spans", "unless", "when", "wish"] (spN K mg T.C_Ask (rsC rS (rsC (rO (rK Sum.inr rS)) (rsC (rQ K (rTu K (rsC (rO rI) (rsC (rO rI) rs0)))) (rsC (rQ K rS) (rsC (rO rS) (rsC rS rs0)))))) (F_Ask T) to_Ask fun b => fun P X => (b.1.length ≤ 20000 ∧ (b.2.1.getD []).length ≤ 1000 ∧ ∀ p ∈ b.2.1.getD [], Asc p.1 ∧ p.1.length ≤ 1000) ∧ match wrongA b.1 (b.2.1.getD []) b.2.2.1.l b.2.2.2.1.l b.2.2.2.2.1 with
    | some w => X ⟨"NoAsk", [("why", .str w)]⟩
    | none => rdWish b.2.2.2.2.2.1 (fun W => P ⟨b.1, ⟨sortD (DatO.enc K (rTu K (rsC rS (rsC rS rs0)))) (rowD (b.2.1.getD []))⟩, ⟨b.2.2.1.l⟩, ⟨b.2.2.2.1.l⟩, b.2.2.2.2.1, W⟩) X) := by
  refine T.d_Ask_init.F.okX sc_Ask_init (fun vs H Q E h => ?_) (fun cdv A outer s H vs Q E hr h => ?_)
  · obtain ⟨p, dx, vs', I, b, P, X, rfl, _, _, _, rp, _⟩ := h
    exact congrArg Nat.succ ((lenC (lenC (lenC (lenC (lenC (lenC len0)))))) _ _ _ _ rp)
  refine ⟨_, (pss_cons (ps_set (i := 7) sc_Ask_init.nd rfl (.inl rfl) (pe_ifExp (pt_cmpR op_isN (pv 2) pe_non (nomark _)) pe_dnewK (pv 2)))
      (pss_cons (ps_set (i := 8) sc_Ask_init.nd rfl (.inl rfl) (pe_call (ok_wrong_in_ask T) (hr.mono (by decide)) (by rfl) T.d_wrong_in_ask.g T.d_wrong_in_ask.F.kp T.d_wrong_in_ask.b .nil pass0 (pa_cons (pv 1) (pa_cons (pv 7) (pa_cons (pv 3) (pa_cons (pv 4) (pa_cons (pv 5) pa_nil)))))))
      (pss_cons (ps_if (pt_cmpR op_notN (pv 8) pe_non (nomark _))
      (pss_one (ps_raise rfl (takes_of rfl rfl rfl rfl) (pmk_oex T.ox_NoAsk T.ii_NoAsk T.ti_NoAsk (ok_NoAsk_init T) (hr.mono (by decide)) T.d_NoAsk_init.b .nil pass0 (by rfl) T.g_NoAsk (pa_cons (pv 8) pa_nil))))
      pss_nil)
      (pss_cons (ps_fld (pv 0) (pv 1) rfl)
      (pss_cons (ps_fld (pv 0) (pe_call (ok_heads_row T) (hr.mono (by decide)) (by rfl) T.d_heads_row.g T.d_heads_row.F.kp T.d_heads_row.b .nil pass0 (pa_cons (pv 7) pa_nil)) rfl)
      (pss_cons (ps_fld (pv 0) (pe_callTy (tupleK K rfl) (by rfl) T.m_tuple (by decide +kernel) (pa_cons (pv 3) pa_nil)) rfl)
      (pss_cons (ps_fld (pv 0) (pe_callTy (tupleK K rfl) (by rfl) T.m_tuple (by decide +kernel) (pa_cons (pv 4) pa_nil)) rfl)
      (pss_cons (ps_fld (pv 0) (pv 5) rfl)
      (pss_one (ps_fld (pv 0) (by exact (pe_callS (ok_read_wish T) (hr.mono (by decide)) (by rfl) T.d_read_wish.g T.d_read_wish.F.kp T.d_read_wish.b (fun σ => passAt (takes_of rfl rfl rfl rfl) σ) (by exact (pa_cons (pv 6) pa_nil)))) rfl)))))))))), ?_⟩
  refine fnN (K := K) (mg := mg) (N := ["self", "path", "heads", "spans", "unless", "when", "wish", "named", "wrong"]) (F := F_Ask T) (to := to_Ask) (of := of_Ask) (fun _ => rfl) (prm_cons (prm_cons (prm_cons (prm_cons (prm_cons (prm_cons prm_nil)))))) (fun J I vs b h => by rw [(lenC (lenC (lenC (lenC (lenC (lenC len0)))))) J I vs b h]; decide) (Γl := fun _ _ => []) (fun p dx b => (sb_set (Nat.le_of_ble_eq_true rfl) (se_if (st_test (se_op ro_isN (se_var rfl) se_non)) (se_dnil (kf := Sum.inr) (B := rS)) (SE.get (se_var rfl))) (fun v1 =>
      (sb_set (Nat.le_of_ble_eq_true rfl) (se_call0 (sa_cons (se_var rfl) (sa_cons (se_var rfl) (sa_cons (se_var rfl) (sa_cons (se_var rfl) (sa_cons (se_var rfl) sa_nil)))))) (fun v2 =>
      (sb_ifq (st_test (se_op ro_notN (se_var rfl) se_non))
      (sb_raise (cn := "NoAsk") (f := "why") T.g_NoAsk (se_var rfl))
      (sb_fldN rfl T.cl_Ask T.n_Ask_path nin0 fewF0 (Nat.le_of_ble_eq_true rfl) (se_var rfl) (fun v3 =>
      (sb_fldN rfl T.cl_Ask T.n_Ask_heads (ninN nin0) (fewFN fewF0) (Nat.le_of_ble_eq_true rfl) (se_call0 (sa_cons (se_var rfl) sa_nil)) (fun v4 =>
      (sb_fldN rfl T.cl_Ask T.n_Ask_spans (ninN (ninN nin0)) (fewFN (fewFN fewF0)) (Nat.le_of_ble_eq_true rfl) (se_cb0 ro_tupQ (sa_cons (se_var rfl) sa_nil)) (fun v5 =>
      (sb_fldN rfl T.cl_Ask T.n_Ask_unless (ninN (ninN (ninN nin0))) (fewFN (fewFN (fewFN fewF0))) (Nat.le_of_ble_eq_true rfl) (se_cb0 ro_tupQ (sa_cons (se_var rfl) sa_nil)) (fun v6 =>
      (sb_fldN rfl T.cl_Ask T.n_Ask_when (ninN (ninN (ninN (ninN nin0)))) (fewFN (fewFN (fewFN (fewFN fewF0)))) (Nat.le_of_ble_eq_true rfl) (se_var rfl) (fun v7 =>
      (sb_end (sb_fldN rfl T.cl_Ask T.n_Ask_wish (ninN (ninN (ninN (ninN (ninN nin0))))) (fewFN (fewFN (fewFN (fewFN (fewFN fewF0))))) (Nat.le_of_ble_eq_true rfl) (se_callX (sa_cons (se_var rfl) sa_nil)) (fun v8 =>
      (sb_next (s := (((((((), v3), v4), v5), v6), v7), v8)) ⟨.inr rfl, trivial⟩)))))))))))))))))))) ?_ h
  intro b P X h
  simp only [decide_eq_true_eq, D.bind, D.pure, D.need, D.any, D.nox] at h ⊢
  obtain ⟨p, d, sp, un, wh, wi, u⟩ := b
  dsimp only at h ⊢
  have key : ∀ e : List (Str × Str), d.getD [] = e → (p.length ≤ 20000 ∧ e.length ≤ 1000 ∧ ∀ q ∈ e, Asc q.1 ∧ q.1.length ≤ 1000) ∧ if (wrongA p e sp.l un.l wh).isSome = true then X { C := Str.ofString "NoAsk", fs := [(Str.ofString "why", ToD.enc K (rO rS) (wrongA p e sp.l un.l wh))] } else (e.length ≤ 1000 ∧ ∀ q ∈ e, Asc q.1 ∧ q.1.length ≤ 1000) ∧ rdWish wi (fun a => P (of_Ask (((((((), p), { l := sortD (DatO.enc K (rTu K (rsC rS (rsC rS rs0)))) (rowD e) }), { l := sp.l }), { l := un.l }), wh), a))) X := fun e ee => by
    rw [ee] at h
    obtain ⟨h1, h2⟩ := h
    refine ⟨h1, ?_⟩
    cases hw : wrongA p e sp.l un.l wh with
    | some w =>
      rw [hw] at h2
      exact iteT' rfl h2
    | none =>
      rw [hw] at h2
      exact iteF' (by simp) ⟨h1.2, h2⟩
  cases d with
  | none => exact iteT' rfl (key [] rfl)
  | some e => exact iteF' (by simp) ⟨e, rfl, key e rfl⟩

end
end My
set_option synthInstance.maxSize 2000
set_option synthInstance.maxHeartbeats 200000
namespace My
open PySem PySem.Spec PyProof.Rows L2 TL
open Lx hiding ints_of paired_app paired_at Wd
open Lw Ls Mo Ak
section
variable {P : Program} {w : World} {K : PySem.W.Frag} {mg : Str → Option Value} {base : Heap}
theorem ok_told_by (T : Txt K mg) : FnOk P w K mg base CX0 1 T.f_told_by T.fd_told_by ["parts"] (spF0 (rsC (rQ K (rTu K (rsC rI (rsC rS rs0)))) rs0) (rL (rTu K (rsC rI (rsC rI rs0)))) fun b => D.pure (((b.1.l.map unP).map tb).map tu2)) := by
  refine T.d_told_by.F.ok sc_told_by (fun vs H Q E h => ?_) (fun cdv A outer s H vs Q E hr h => ?_)
  · obtain ⟨I, b, P, s, rp, _⟩ := h
    exact (lenC len0) _ _ _ _ rp
  refine ⟨_, (pss_one (ps_ret (pe_lc (own := [("start", 1), ("signs", 2)]) (g := gTup K 2 (gCons (gName 1) (gCons (gName 2) gNil))) (tt := tYes) (by rfl) sc_told_by.nd (pi_seqK K rfl (pv 0)) (blkOk_by (own := [("start", 1), ("signs", 2)]) (N := ["parts", "start", "signs"]) (sc := defScope s_told_by) (by decide +kernel)) (fun _ _ _ _ _ => (pg_tup rfl (pgs_cons (pg_name (i := 1) sc_told_by.nd rfl (Or.inl rfl)) (pgs_cons (pg_name (i := 2) sc_told_by.nd rfl (Or.inl rfl)) pgs_nil)))) (fun _ _ _ _ _ => pts_nil) (fun _ _ _ _ _ => (pe_tup (pa_cons (pv 1) (pa_cons (pe_op op_add (pv 1) (pe_callB call_len_str (by rfl) T.m_len (by decide +kernel) (pa_cons (pv 2) pa_nil))) pa_nil))))))), ?_⟩
  refine fn0 (K := K) (mg := mg) (N := ["parts", "start", "signs"]) (R := (rL (rTu K (rsC rI (rsC rI rs0))))) (prm_cons prm_nil) (fun J I vs b h => by rw [(lenC len0) J I vs b h]; decide) (Γn := fun _ _ => []) (Γl := fun _ _ => []) (fun b => (sb_ret (se_lc (si_seq (se_var rfl)) (sg_tup (sgs_cons (sgs_cons sgs_nil)) (lenC (lenC len0))) (by rfl) (by rfl) (fun x1 => st_yes) (fun x1 => (se_tu 2 (sa_cons (se_var rfl) (sa_cons (se_op ro_add (se_var rfl) (se_cb ro_lenS (sa_cons (se_var rfl) sa_nil))) sa_nil)) (lenC (lenC len0))))))) ?_ h
  intro b P h
  simp only [decide_eq_true_eq, D.bind, D.pure, D.need, D.any, D.nox] at h ⊢
  refine compD_fun (fun _ => true) (fun x => tu2 (tb (unP x))) _ _ _ (fun _ _ _ q => q) (fun _ _ _ _ q => q) ?_
  rw [List.filter_eq_self.mpr (fun _ _ => rfl)]
  rw [List.map_map, List.map_map] at h
  exact h
theorem ok_meetings (T : Txt K mg) : FnOk P w K mg base CX0 1 T.f_meetings T.fd_meetings ["ones", "others"] (spF0 (rsC (rQ K (rTu K (rsC rI (rsC rI rs0)))) (rsC (rQ K (rTu K (rsC rI (rsC rI rs0)))) rs0)) (rL (rTu K (rsC rI (rsC rI (rsC rI rs0))))) fun b => D.need (b.1.l.length + b.2.1.l.length ≤ 10000) (D.pure ((meet (b.1.l.map un2) (b.2.1.l.map un2)).map tu3))) := by
  refine T.d_meetings.F.ok sc_meetings (fun vs H Q E h => ?_) (fun cdv A outer s H vs Q E hr h => ?_)
  · obtain ⟨I, b, P, s, rp, _⟩ := h
    exact (lenC (lenC len0)) _ _ _ _ rp
  refine ⟨_, (pss_cons (ps_set (i := 2) sc_meetings.nd rfl (.inl rfl) (pe_lst pa_nil))
      (pss_cons (ps_set (i := 3) sc_meetings.nd rfl (.inl rfl) pe_int)
      (pss_cons (ps_set (i := 4) sc_meetings.nd rfl (.inl rfl) pe_int)
      (pss_cons (ps_while PassesOwn.never (PW.pt (pw_and (pt_cmpR op_lt (pv 3) (pe_callB (lenK K rfl) (by rfl) T.m_len (by decide +kernel) (pa_cons (pv 0) pa_nil)) (nomark _)) (pw_and1 (pt_cmpR op_lt (pv 4) (pe_callB (lenK K rfl) (by rfl) T.m_len (by decide +kernel) (pa_cons (pv 1) pa_nil)) (nomark _)))))
      (pss_cons (ps_set (i := 5) sc_meetings.nd rfl (.inl rfl) (pe_callB (call_max2 rfl) (by rfl) T.m_max (by decide +kernel) (pa_cons (pe_ix (ixTK K rfl) (pe_ix (ixSK K rfl) (pv 0) (pv 3) (fun _ _ => rfl)) pe_int (fun _ _ => rfl)) (pa_cons (pe_ix (ixTK K rfl) (pe_ix (ixSK K rfl) (pv 1) (pv 4) (fun _ _ => rfl)) pe_int (fun _ _ => rfl)) pa_nil))))
      (pss_cons (ps_set (i := 6) sc_meetings.nd rfl (.inl rfl) (pe_callB (call_min2 rfl) (by rfl) T.m_min (by decide +kernel) (pa_cons (pe_ix (ixTK K rfl) (pe_ix (ixSK K rfl) (pv 0) (pv 3) (fun _ _ => rfl)) pe_int (fun _ _ => rfl)) (pa_cons (pe_ix (ixTK K rfl) (pe_ix (ixSK K rfl) (pv 1) (pv 4) (fun _ _ => rfl)) pe_int (fun _ _ => rfl)) pa_nil))))
      (pss_cons (ps_if (pt_cmpR op_lt (pv 5) (pv 6) (nomark _))
      (pss_one (ps_expr (bmK K rfl (pe_bm PySem.F.plainAttrs_list PySem.F.slot_list_append PySem.F.type_list_append mt_append (pv 2) (pa_cons (pe_tup (pa_cons (pv 3) (pa_cons (pv 5) (pa_cons (pv 6) pa_nil)))) pa_nil)))))
      pss_nil)
      (pss_one (ps_if (pt_cmpR op_le (pe_ix (ixTK K rfl) (pe_ix (ixSK K rfl) (pv 0) (pv 3) (fun _ _ => rfl)) pe_int (fun _ _ => rfl)) (pe_ix (ixTK K rfl) (pe_ix (ixSK K rfl) (pv 1) (pv 4) (fun _ _ => rfl)) pe_int (fun _ _ => rfl)) (nomark _))
      (pss_one (ps_aug (i := 3) sc_meetings.nd rfl (.inl rfl) pe_int ip_add))
      (pss_one (ps_aug (i := 4) sc_meetings.nd rfl (.inl rfl) pe_int ip_add))))))))
      (pss_one (ps_ret (pv 2))))))), ?_⟩
  refine fn0 (K := K) (mg := mg) (N := ["ones", "others", "found", "at", "beside", "start", "stop"]) (R := (rL (rTu K (rsC rI (rsC rI (rsC rI rs0)))))) (prm_cons (prm_cons prm_nil)) (fun J I vs b h => by rw [(lenC (lenC len0)) J I vs b h]; decide) (Γn := fun _ _ => []) (Γl := fun _ _ => []) (fun b => (sb_nilL (rTu K (rsC rI (rsC rI (rsC rI rs0)))) (Nat.le_of_ble_eq_true rfl)
      (sb_set (Nat.le_of_ble_eq_true rfl) se_int (fun v1 =>
      (sb_set (Nat.le_of_ble_eq_true rfl) se_int (fun v2 =>
      (sb_while (s0 := ([], v1, v2)) (fun s : (List (Tu (Int × Int × Int × Unit))) × Int × Int => [⟨.l (rTu K (rsC rI (rsC rI (rsC rI rs0)))), 2, s.1⟩, ⟨.p rI, 3, s.2.1⟩, ⟨.p rI, 4, s.2.2⟩, ⟨.x, 5, ()⟩, ⟨.x, 6, ()⟩]) ⟨.inr rfl, .inr rfl, .inr rfl, .inl rfl, .inl rfl, trivial⟩ (fun s3 => (st_andp (st_test (se_op ro_lt (se_var rfl) (se_cb ro_lenQ (sa_cons (se_var rfl) sa_nil)))) (st_test (se_op ro_lt (se_var rfl) (se_cb ro_lenQ (sa_cons (se_var rfl) sa_nil)))))) (fun s3 =>
      (sb_set (Nat.le_of_ble_eq_true rfl) (se_cb ro_max2 (sa_cons (se_tu0 (se_op ro_ixQ (se_var rfl) (se_var rfl))) (sa_cons (se_tu0 (se_op ro_ixQ (se_var rfl) (se_var rfl))) sa_nil))) (fun v4 =>
      (sb_set (Nat.le_of_ble_eq_true rfl) (se_cb ro_min2 (sa_cons (se_tu1 (se_op ro_ixQ (se_var rfl) (se_var rfl))) (sa_cons (se_tu1 (se_op ro_ixQ (se_var rfl) (se_var rfl))) sa_nil))) (fun v5 =>
      (sb_join (fun s : (List (Tu (Int × Int × Int × Unit))) => [⟨.l (rTu K (rsC rI (rsC rI (rsC rI rs0)))), 2, s⟩]) (st_test (se_op ro_lt (se_var rfl) (se_var rfl)))
      (sb_end (sb_app rfl (se_tu 3 (sa_cons (se_var rfl) (sa_cons (se_var rfl) (sa_cons (se_var rfl) sa_nil))) (lenC (lenC (lenC len0)))) (fun v6 =>
      (sb_nextK (ρ := fun s : (List (Tu (Int × Int × Int × Unit))) => [⟨.l (rTu K (rsC rI (rsC rI (rsC rI rs0)))), 2, s⟩]) (s := (s3.1 ++ [v6])) 1 rfl rfl ⟨.inr rfl, trivial⟩))))
      (sb_nextK (ρ := fun s : (List (Tu (Int × Int × Int × Unit))) => [⟨.l (rTu K (rsC rI (rsC rI (rsC rI rs0)))), 2, s⟩]) (s := s3.1) 0 rfl rfl ⟨.inr rfl, trivial⟩)
      (fun s7 => (sb_if (st_test (se_op ro_le (se_tu1 (se_op ro_ixQ (se_var rfl) (se_var rfl))) (se_tu1 (se_op ro_ixQ (se_var rfl) (se_var rfl)))))
      (sb_end (sb_aug rfl (Nat.le_of_ble_eq_true rfl) se_int (fun v8 =>
      (sb_nextK (ρ := fun s : (List (Tu (Int × Int × Int × Unit))) × Int × Int => [⟨.l (rTu K (rsC rI (rsC rI (rsC rI rs0)))), 2, s.1⟩, ⟨.p rI, 3, s.2.1⟩, ⟨.p rI, 4, s.2.2⟩, ⟨.x, 5, ()⟩, ⟨.x, 6, ()⟩]) (s := (s7, v8, s3.2.2)) 9 rfl rfl ⟨.inr rfl, .inr rfl, .inr rfl, .inl rfl, .inl rfl, trivial⟩))))
      (sb_end (sb_aug rfl (Nat.le_of_ble_eq_true rfl) se_int (fun v9 =>
      (sb_nextK (ρ := fun s : (List (Tu (Int × Int × Int × Unit))) × Int × Int => [⟨.l (rTu K (rsC rI (rsC rI (rsC rI rs0)))), 2, s.1⟩, ⟨.p rI, 3, s.2.1⟩, ⟨.p rI, 4, s.2.2⟩, ⟨.x, 5, ()⟩, ⟨.x, 6, ()⟩]) (s := (s7, s3.2.1, v9)) 9 rfl rfl ⟨.inr rfl, .inr rfl, .inr rfl, .inl rfl, .inl rfl, trivial⟩))))))))))))
      (fun s10 => (sb_frz 2 rfl (sb_ret (se_var rfl))))))))))) ?_ h
  intro b P h
  simp only [decide_eq_true_eq, D.bind, D.pure, D.need, D.any, D.nox] at h ⊢
  obtain ⟨⟨xs⟩, ⟨ys⟩, u⟩ := b
  obtain ⟨hl, h⟩ := h
  dsimp only at hl h ⊢
  have hs : 100000 ≤ sizeLine := by decide
  unfold meet at h
  rw [List.length_map, List.length_map] at h
  refine ⟨xs.length + ys.length + 1, whileD_rec (fun s => (xs.length - s.2.1.toNat) + (ys.length - s.2.2.toNat)) (fun s => ∃ (i j : Nat) (F : List (Nat × Int × Int)), s = (F.map tu3, (i : Int), (j : Int)) ∧ i ≤ xs.length ∧ j ≤ ys.length ∧ F.length + (xs.length - i) + (ys.length - j) ≤ 10000 ∧ P ((F ++ meetF ((xs.length - i) + (ys.length - j)) ((xs.map un2).drop i) ((ys.map un2).drop j) i).map tu3)) ?_ _ _ ?_ ⟨0, 0, [], rfl, Nat.zero_le _, Nat.zero_le _, by rw [List.length_nil]; omega, h⟩⟩
  · rintro _ ⟨i, j, F, rfl, hi, hj, hF, hP⟩ k hk
    show if (decide ((i : Int) < (xs.length : Int)) && decide ((j : Int) < (ys.length : Int))) = true then _ else P (F.map tu3)
    dsimp only at hk ⊢
    by_cases c : i < xs.length ∧ j < ys.length
    · rw [decide_eq_true (show (i : Int) < (xs.length : Int) by omega), decide_eq_true (show (j : Int) < (ys.length : Int) by omega), Bool.true_and, if_pos rfl]
      have ax : atI xs (i : Int) = some xs[i] := atI_nat (List.getElem?_eq_getElem c.1)
      have ay : atI ys (j : Int) = some ys[j] := atI_nat (List.getElem?_eq_getElem c.2)
      have dx : (xs.map un2).drop i = un2 xs[i] :: (xs.map un2).drop (i + 1) := by
        rw [List.drop_eq_getElem_cons (by rw [List.length_map]; exact c.1), List.getElem_map]
      have dy : (ys.map un2).drop j = un2 ys[j] :: (ys.map un2).drop (j + 1) := by
        rw [List.drop_eq_getElem_cons (by rw [List.length_map]; exact c.2), List.getElem_map]
      have hm : (xs.length - i) + (ys.length - j) = ((xs.length - i) + (ys.length - j) - 1) + 1 := by omega
      rw [hm, dx, dy, meetF_cons, ← List.append_assoc] at hP
      generalize xs[i] = x at ax dx hP
      generalize ys[j] = y at ay dy hP
      unfold hit at hP
      rw [mx_max, mn_min] at hP
      have hk1 := fun F' hF' hP' => hk (F'.map tu3, ((i : Int) + 1), (j : Int)) ⟨i + 1, j, F', by rw [show ((i + 1 : Nat) : Int) = (i : Int) + 1 by omega], by omega, hj, hF', hP'⟩ (by show (xs.length - ((i : Int) + 1).toNat) + (ys.length - ((j : Int)).toNat) < (xs.length - ((i : Int)).toNat) + (ys.length - ((j : Int)).toNat); omega)
      have hk2 := fun F' hF' hP' => hk (F'.map tu3, (i : Int), ((j : Int) + 1)) ⟨i, j + 1, F', by rw [show ((j + 1 : Nat) : Int) = (j : Int) + 1 by omega], hi, by omega, hF', hP'⟩ (by show (xs.length - ((i : Int)).toNat) + (ys.length - ((j : Int) + 1).toNat) < (xs.length - ((i : Int)).toNat) + (ys.length - ((j : Int)).toNat); omega)
      rw [← dx, ← dy] at hP
      have m1 : xs.length - i + (ys.length - j) - 1 = xs.length - (i + 1) + (ys.length - j) := by omega
      have m2 : xs.length - i + (ys.length - j) - 1 = xs.length - i + (ys.length - (j + 1)) := by omega
      refine ⟨x, ax, y, ay, x, ax, y, ay, ite2 (fun c1 => ⟨?_, x, ax, y, ay, ite2 (fun c2 => ?_) (fun c2 => ?_)⟩) (fun c1 => ⟨x, ax, y, ay, ite2 (fun c2 => ?_) (fun c2 => ?_)⟩)⟩
      · rw [List.length_map]
        omega
      · rw [if_pos (show max (un2 x).1 (un2 y).1 < min (un2 x).2 (un2 y).2 from c1), if_pos (show (un2 x).2 ≤ (un2 y).2 from c2), m1] at hP
        have := hk1 (F ++ [(i, max x.r.1 y.r.1, min x.r.2.1 y.r.2.1)]) (by rw [List.length_append, List.length_singleton]; omega) hP
        rw [List.map_append] at this
        exact this
      · rw [if_pos (show max (un2 x).1 (un2 y).1 < min (un2 x).2 (un2 y).2 from c1), if_neg (show ¬ (un2 x).2 ≤ (un2 y).2 from c2), m2] at hP
        have := hk2 (F ++ [(i, max x.r.1 y.r.1, min x.r.2.1 y.r.2.1)]) (by rw [List.length_append, List.length_singleton]; omega) hP
        rw [List.map_append] at this
        exact this
      · rw [if_neg (show ¬ max (un2 x).1 (un2 y).1 < min (un2 x).2 (un2 y).2 from c1), if_pos (show (un2 x).2 ≤ (un2 y).2 from c2), m1, List.append_nil] at hP
        exact hk1 F (by omega) hP
      · rw [if_neg (show ¬ max (un2 x).1 (un2 y).1 < min (un2 x).2 (un2 y).2 from c1), if_neg (show ¬ (un2 x).2 ≤ (un2 y).2 from c2), m2, List.append_nil] at hP
        exact hk2 F (by omega) hP
    · have e : (decide ((i : Int) < (xs.length : Int)) && decide ((j : Int) < (ys.length : Int))) = false := by
        rw [Bool.and_eq_false_iff, decide_eq_false_iff_not, decide_eq_false_iff_not]
        omega
      rw [e]
      refine iteF ?_
      by_cases c1 : i < xs.length
      · rw [List.drop_of_length_le (l := ys.map un2) (by rw [List.length_map]; omega), meetF_nil2, List.append_nil] at hP
        exact hP
      · rw [List.drop_of_length_le (l := xs.map un2) (by rw [List.length_map]; omega), meetF_nil1, List.append_nil] at hP
        exact hP
  · show (xs.length - (0 : Int).toNat) + (ys.length - (0 : Int).toNat) < _
    omega
theorem ok_cut (T : Txt K mg) : FnOk P w K mg base CX0 2 T.f_cut T.fd_cut ["parts", "wanted"] (spF0 (rsC (rQ K (rTu K (rsC rI (rsC rS rs0)))) (rsC (rQ K (rTu K (rsC rI (rsC rI rs0)))) rs0)) (rL (rTu K (rsC rI (rsC rS rs0)))) fun b => fun P _ => ∃ (f : Int → Nat) (A B : List (Int × Int)), b.1.l = (partsF f A).map tuP ∧ b.2.1.l = B.map tu2 ∧ can A ∧ can B ∧ A.length + B.length ≤ 5000 ∧ P ((partsF f ((meet A B).map (·.2))).map tuP)) := by
  refine T.d_cut.F.ok sc_cut (fun vs H Q E h => ?_) (fun cdv A outer s H vs Q E hr h => ?_)
  · obtain ⟨I, b, P, s, rp, _⟩ := h
    exact (lenC (lenC len0)) _ _ _ _ rp
  refine ⟨_, (pss_cons (ps_set (i := 2) sc_cut.nd rfl (.inl rfl) (pe_lst pa_nil))
      (pss_cons (ps_for PassesOwn.never rfl (pi_listK K rfl (pe_call (ok_meetings T) (hr.mono (by decide)) (by rfl) T.d_meetings.g T.d_meetings.F.kp T.d_meetings.b .nil pass0 (pa_cons (pe_call (ok_told_by T) (hr.mono (by decide)) (by rfl) T.d_told_by.g T.d_told_by.F.kp T.d_told_by.b .nil pass0 (pa_cons (pv 0) pa_nil)) (pa_cons (pv 1) pa_nil)))) (pg_tup rfl (pgs_cons (pg_name (i := 3) sc_cut.nd rfl (.inl rfl)) (pgs_cons (pg_name (i := 4) sc_cut.nd rfl (.inl rfl)) (pgs_cons (pg_name (i := 5) sc_cut.nd rfl (.inl rfl)) pgs_nil))))
      (pss_cons (ps_asg (pe_ix (ixSK K rfl) (pv 0) (pv 3) (fun _ _ => rfl)) (pg_tup rfl (pgs_cons (pg_name (i := 6) sc_cut.nd rfl (.inl rfl)) (pgs_cons (pg_name (i := 7) sc_cut.nd rfl (.inl rfl)) pgs_nil))))
      (pss_one (ps_expr (bmK K rfl (pe_bm PySem.F.plainAttrs_list PySem.F.slot_list_append PySem.F.type_list_append mt_append (pv 2) (pa_cons (pe_tup (pa_cons (pv 4) (pa_cons (pe_slice sl_str (pv 7) (po_some (pe_op op_sub (pv 4) (pv 6))) (po_some (pe_op op_sub (pv 5) (pv 6)))) pa_nil))) pa_nil)))))))
      (pss_one (ps_ret (pv 2))))), ?_⟩
  refine fn0 (K := K) (mg := mg) (N := ["parts", "wanted", "found", "at", "start", "stop", "first", "signs"]) (R := (rL (rTu K (rsC rI (rsC rS rs0))))) (prm_cons (prm_cons prm_nil)) (fun J I vs b h => by rw [(lenC (lenC len0)) J I vs b h]; decide) (Γn := fun _ _ => []) (Γl := fun _ _ => []) (fun b => (sb_nilL (rTu K (rsC rI (rsC rS rs0))) (Nat.le_of_ble_eq_true rfl)
      (sb_loop (s0 := []) (fun s : (List (Tu (Int × Str × Unit))) => [⟨.l (rTu K (rsC rI (rsC rS rs0))), 2, s⟩, ⟨.x, 6, ()⟩, ⟨.x, 7, ()⟩, ⟨.x, 3, ()⟩, ⟨.x, 4, ()⟩, ⟨.x, 5, ()⟩]) (si_list (se_call0 (sa_cons (SE.map co_lq (se_call0 (sa_cons (se_var rfl) sa_nil))) (sa_cons (se_var rfl) sa_nil)))) (sg_tup (sgs_cons (sgs_cons (sgs_cons sgs_nil))) (lenC (lenC (lenC len0)))) rfl ⟨.inr rfl, .inl rfl, .inl rfl, .inl rfl, .inl rfl, .inl rfl, trivial⟩ (fun x2 s1 =>
      (sb_asg (sg_tup (sgs_cons (sgs_cons sgs_nil)) (lenC (lenC len0))) rfl (se_op ro_ixQ (se_var rfl) (se_var rfl)) (fun v3 =>
      (sb_end (sb_app rfl (se_tu 2 (sa_cons (se_var rfl) (sa_cons (se_sl ro_slS (se_var rfl) (sp_some (se_op ro_sub (se_var rfl) (se_var rfl))) (sp_some (se_op ro_sub (se_var rfl) (se_var rfl)))) sa_nil)) (lenC (lenC len0))) (fun v4 =>
      (sb_nextK (ρ := fun s : (List (Tu (Int × Str × Unit))) => [⟨.l (rTu K (rsC rI (rsC rS rs0))), 2, s⟩, ⟨.x, 6, ()⟩, ⟨.x, 7, ()⟩, ⟨.x, 3, ()⟩, ⟨.x, 4, ()⟩, ⟨.x, 5, ()⟩]) (s := (s1 ++ [v4])) 12 rfl rfl ⟨.inr rfl, .inl rfl, .inl rfl, .inl rfl, .inl rfl, .inl rfl, trivial⟩)))))))
      (fun s5 => (sb_frz 2 rfl (sb_ret (se_var rfl))))))) ?_ h
  intro b P h
  simp only [decide_eq_true_eq, D.bind, D.pure, D.need, D.any, D.nox] at h ⊢
  obtain ⟨⟨ps⟩, ⟨W⟩, u⟩ := b
  obtain ⟨f, A, B, rfl, rfl, cA, cB, hl, h⟩ := h
  dsimp only at h ⊢
  have hs : 100000 ≤ sizeLine := by decide
  have lP : (partsF f A).length = A.length := List.length_map ..
  rw [unP_tuP, un2_tu2, un2_tu2, tb_partsF cA]
  refine ⟨by rw [List.length_map, List.length_map]; omega, ?_⟩
  have ml := meet_len A B
  refine forD_fold (fun i s => s.length ≤ i) (fun s x => s ++ [tuP (x.r.2.1, txtF f x.r.2.1 x.r.2.2.1)]) 5000 _ 0 _ (by rw [List.length_map]; omega) (Nat.le_refl _) (fun x hx i s hi hI => ⟨by rw [List.length_append, List.length_singleton]; omega, fun k hk => ?_⟩) ?_
  · obtain ⟨m, hm, rfl⟩ := List.mem_map.mp hx
    obtain ⟨m1, v, hv, m2, m3⟩ := meet_at cA cB hm
    have hat : atI ((partsF f A).map tuP) ((m.1 : Nat) : Int) = some (tuP (v.1, txtF f v.1 v.2)) := by
      refine atI_nat ?_
      rw [List.getElem?_map]
      unfold partsF
      rw [List.getElem?_map, hv]
      rfl
    refine ⟨_, hat, by omega, ?_⟩
    have ec := txtF_cut (f := f) (a := v.1) (b := v.2) (s := m.2.1) (t := m.2.2) m2 (by omega) m3
    have hk' : k (s ++ [tuP (m.2.1, txtF f m.2.1 m.2.2)]) := hk
    rw [← ec] at hk'
    exact hk'
  · have e : ∀ (M : List (Nat × Int × Int)) (s : List (Tu (Int × Str × Unit))), (M.map tu3).foldl (fun s x => s ++ [tuP (x.r.2.1, txtF f x.r.2.1 x.r.2.2.1)]) s = s ++ (partsF f (M.map (·.2))).map tuP := fun M => by
      induction M with
      | nil => exact fun s => (List.append_nil s).symm
      | cons m r ih =>
        intro s
        rw [List.map_cons, List.foldl_cons, ih, List.append_assoc]
        rfl
    rw [e, List.nil_append]
    exact h

theorem ok_Answer_init (T : Txt K mg) : FnOk P w K mg base CX0 3 T.f_Answer_init T.fd_Answer_init ["self", "word", "mark", "size", "parts", "age", "count", "rule", "turns", "tags", "ground"] (spN K mg T.C_Answer (rsC rS (rsC (rO rS) (rsC rI (rsC (rQ K (rTu K (rsC rI (rsC rS rs0)))) (rsC rI (rsC rI (rsC (rO (r_Rule T)) (rsC (rQ K rS) (rsC (rQ K rS) (rsC (rQ K (rTu K (rsC rI (rsC rI (rsC rI rs0))))) rs0)))))))))) (F_Answer T) to_Answer fun b => D.pure ⟨b.1, b.2.1, b.2.2.1, ⟨b.2.2.2.1.l⟩, b.2.2.2.2.1, b.2.2.2.2.2.1, (b.2.2.2.2.2.2.1).getD rule0, ⟨b.2.2.2.2.2.2.2.1.l⟩, ⟨b.2.2.2.2.2.2.2.2.1.l⟩, ⟨b.2.2.2.2.2.2.2.2.2.1.l⟩⟩) := by
  refine T.d_Answer_init.F.ok sc_Answer_init (fun vs H Q E h => ?_) (fun cdv A outer s H vs Q E hr h => ?_)
  · obtain ⟨p, dx, vs', I, b, P, X, rfl, _, _, _, rp, _⟩ := h
    exact congrArg Nat.succ ((lenC (lenC (lenC (lenC (lenC (lenC (lenC (lenC (lenC (lenC len0)))))))))) _ _ _ _ rp)
  refine ⟨_, (pss_cons (ps_fld (pv 0) (pv 1) rfl)
      (pss_cons (ps_fld (pv 0) (pv 2) rfl)
      (pss_cons (ps_fld (pv 0) (pv 3) rfl)
      (pss_cons (ps_fld (pv 0) (pe_callTy (tupleK K rfl) (by rfl) T.m_tuple (by decide +kernel) (pa_cons (pe_lc (own := [("start", 11), ("signs", 12)]) (g := gTup K 2 (gCons (gName 11) (gCons (gName 12) gNil))) (tt := tYes) (by rfl) sc_Answer_init.nd (pi_seqK K rfl (pv 4)) (blkOk_by (own := [("start", 11), ("signs", 12)]) (N := ["self", "word", "mark", "size", "parts", "age", "count", "rule", "turns", "tags", "ground", "start", "signs", "link"]) (sc := defScope s_Answer_init) (by decide +kernel)) (fun _ _ _ _ _ => (pg_tup rfl (pgs_cons (pg_name (i := 11) sc_Answer_init.nd rfl (Or.inl rfl)) (pgs_cons (pg_name (i := 12) sc_Answer_init.nd rfl (Or.inl rfl)) pgs_nil)))) (fun _ _ _ _ _ => pts_nil) (fun _ _ _ _ _ => (pe_tup (pa_cons (pv 11) (pa_cons (pv 12) pa_nil))))) pa_nil)) rfl)
      (pss_cons (ps_fld (pv 0) (pv 5) rfl)
      (pss_cons (ps_fld (pv 0) (pv 6) rfl)
      (pss_cons (ps_fld (pv 0) (pe_ifExp (pt_cmpR op_isN (pv 7) pe_non (nomark _)) (pe_make0 T.mk_Rule (ok_Rule_init T) (hr.mono (by decide)) (by rfl) T.g_Rule T.kb_6.choose_spec.2 T.kb_6.choose_spec.1 pass0) (pv 7)) rfl)
      (pss_cons (ps_fld (pv 0) (pe_callTy (tupleK K rfl) (by rfl) T.m_tuple (by decide +kernel) (pa_cons (pv 8) pa_nil)) rfl)
      (pss_cons (ps_fld (pv 0) (pe_callTy (tupleK K rfl) (by rfl) T.m_tuple (by decide +kernel) (pa_cons (pv 9) pa_nil)) rfl)
      (pss_one (ps_fld (pv 0) (pe_callTy (tupleK K rfl) (by rfl) T.m_tuple (by decide +kernel) (pa_cons (pe_lc (own := [("link", 13)]) (g := gName 13) (tt := tYes) (by rfl) sc_Answer_init.nd (pi_seqK K rfl (pv 10)) (blkOk_by (own := [("link", 13)]) (N := ["self", "word", "mark", "size", "parts", "age", "count", "rule", "turns", "tags", "ground", "start", "signs", "link"]) (sc := defScope s_Answer_init) (by decide +kernel)) (fun _ _ _ _ _ => (pg_name (i := 13) sc_Answer_init.nd rfl (Or.inl rfl))) (fun _ _ _ _ _ => pts_nil) (fun _ _ _ _ _ => (pe_callTy (tupleK K rfl) (by rfl) T.m_tuple (by decide +kernel) (pa_cons (pv 13) pa_nil)))) pa_nil)) rfl))))))))))), ?_⟩
  refine fnN (K := K) (mg := mg) (N := ["self", "word", "mark", "size", "parts", "age", "count", "rule", "turns", "tags", "ground", "start", "signs", "link"]) (F := F_Answer T) (to := to_Answer) (of := of_Answer) (fun _ => rfl) (prm_cons (prm_cons (prm_cons (prm_cons (prm_cons (prm_cons (prm_cons (prm_cons (prm_cons (prm_cons prm_nil)))))))))) (fun J I vs b h => by rw [(lenC (lenC (lenC (lenC (lenC (lenC (lenC (lenC (lenC (lenC len0)))))))))) J I vs b h]; decide) (Γl := fun _ _ => []) (fun p dx b => (sb_fldN rfl T.cl_Answer T.n_Answer_word nin0 fewF0 (Nat.le_of_ble_eq_true rfl) (se_var rfl) (fun v1 =>
      (sb_fldN rfl T.cl_Answer T.n_Answer_mark (ninN nin0) (fewFN fewF0) (Nat.le_of_ble_eq_true rfl) (se_var rfl) (fun v2 =>
      (sb_fldN rfl T.cl_Answer T.n_Answer_size (ninN (ninN nin0)) (fewFN (fewFN fewF0)) (Nat.le_of_ble_eq_true rfl) (se_var rfl) (fun v3 =>
      (sb_fldN rfl T.cl_Answer T.n_Answer_parts (ninN (ninN (ninN nin0))) (fewFN (fewFN (fewFN fewF0))) (Nat.le_of_ble_eq_true rfl) (se_cb ro_tupL (sa_cons (se_lc (si_seq (se_var rfl)) (sg_tup (sgs_cons (sgs_cons sgs_nil)) (lenC (lenC len0))) (by rfl) (by rfl) (fun x4 => st_yes) (fun x4 => (se_tu 2 (sa_cons (se_var rfl) (sa_cons (se_var rfl) sa_nil)) (lenC (lenC len0))))) sa_nil)) (fun v5 =>
      (sb_fldN rfl T.cl_Answer T.n_Answer_age (ninN (ninN (ninN (ninN nin0)))) (fewFN (fewFN (fewFN (fewFN fewF0)))) (Nat.le_of_ble_eq_true rfl) (se_var rfl) (fun v6 =>
      (sb_fldN rfl T.cl_Answer T.n_Answer_count (ninN (ninN (ninN (ninN (ninN nin0))))) (fewFN (fewFN (fewFN (fewFN (fewFN fewF0))))) (Nat.le_of_ble_eq_true rfl) (se_var rfl) (fun v7 =>
      (sb_fldN rfl T.cl_Answer T.n_Answer_rule (ninN (ninN (ninN (ninN (ninN (ninN nin0)))))) (fewFN (fewFN (fewFN (fewFN (fewFN (fewFN fewF0)))))) (Nat.le_of_ble_eq_true rfl) (se_if (st_test (se_op ro_isN (se_var rfl) se_non)) (se_mkD (f := fun (a : Unit) => ((0 : Int), (0 : Int), (0 : Int), false, false, false, false, false, ())) (by intro _ _ a h1; obtain rfl := h1; exact ⟨_, _, rfl, rfl, ⟨_, _, rfl, rfl, ⟨_, _, rfl, rfl, ⟨_, _, rfl, rfl, ⟨_, _, rfl, rfl, ⟨_, _, rfl, rfl, ⟨_, _, rfl, rfl, ⟨_, _, rfl, rfl, rfl⟩⟩⟩⟩⟩⟩⟩⟩) sa_nil) (SE.get (se_var rfl))) (fun v8 =>
      (sb_fldN rfl T.cl_Answer T.n_Answer_turns (ninN (ninN (ninN (ninN (ninN (ninN (ninN nin0))))))) (fewFN (fewFN (fewFN (fewFN (fewFN (fewFN (fewFN fewF0))))))) (Nat.le_of_ble_eq_true rfl) (se_cb0 ro_tupQ (sa_cons (se_var rfl) sa_nil)) (fun v9 =>
      (sb_fldN rfl T.cl_Answer T.n_Answer_tags (ninN (ninN (ninN (ninN (ninN (ninN (ninN (ninN nin0)))))))) (fewFN (fewFN (fewFN (fewFN (fewFN (fewFN (fewFN (fewFN fewF0)))))))) (Nat.le_of_ble_eq_true rfl) (se_cb0 ro_tupQ (sa_cons (se_var rfl) sa_nil)) (fun v10 =>
      (sb_end (sb_fldN rfl T.cl_Answer T.n_Answer_ground (ninN (ninN (ninN (ninN (ninN (ninN (ninN (ninN (ninN nin0))))))))) (fewFN (fewFN (fewFN (fewFN (fewFN (fewFN (fewFN (fewFN (fewFN fewF0))))))))) (Nat.le_of_ble_eq_true rfl) (se_cb ro_tupL (sa_cons (se_lc (si_seq (se_var rfl)) sg_name (by rfl) (by rfl) (fun x11 => st_yes) (fun x11 => (se_cb0 ro_tupTu (sa_cons (se_var rfl) sa_nil)))) sa_nil)) (fun v12 =>
      (sb_next (s := (((((((((((), v1), v2), v3), v5), v6), v7), v8), v9), v10), v12)) ⟨.inr rfl, trivial⟩))))))))))))))))))))))) ?_ h
  intro b P X h
  simp only [↓reduceIte, decide_eq_true_eq, D.bind, D.pure, D.need, D.any, D.nox] at h ⊢
  obtain ⟨wd, mk, sz, ps, ag, ct, ru, tu, ta, gr, u⟩ := b
  dsimp only at h ⊢
  refine compD_fun (fun _ => true) (fun x : Pt => x) _ _ _ (fun _ _ _ q => q) (fun _ _ _ _ q => q) ?_
  rw [List.filter_eq_self.mpr (fun _ _ => rfl), List.map_id']
  cases ru with
  | none =>
    refine iteT' rfl ?_
    refine compD_fun (fun _ => true) (fun x : Lk => x) _ _ _ (fun _ _ _ q => q) (fun _ _ _ _ q => q) ?_
    rw [List.filter_eq_self.mpr (fun _ _ => rfl), List.map_id']
    exact h
  | some r =>
    refine iteF' (by simp) ⟨r, rfl, ?_⟩
    refine compD_fun (fun _ => true) (fun x : Lk => x) _ _ _ (fun _ _ _ q => q) (fun _ _ _ _ q => q) ?_
    rw [List.filter_eq_self.mpr (fun _ _ => rfl), List.map_id']
    exact h
theorem ok_Answer_told (T : Txt K mg) : FnOk P w K mg base CX0 1 T.f_Answer_told T.fd_Answer_told ["self"] (spF0 (rsC (r_Answer T) rs0) (rTu K (rsC rS (rsC (rO rS) (rsC rI (rsC (rT K (rTu K (rsC rI (rsC rS rs0)))) (rsC rI (rsC rI (rsC (rT K (rTu K (rsC rI (rsC rI (rsC rI rs0))))) rs0)))))))) fun b => D.pure ⟨(b.1.word, b.1.mark, b.1.size, b.1.parts, b.1.age, b.1.count, b.1.ground, ())⟩) := by
  refine T.d_Answer_told.F.ok sc_Answer_told (fun vs H Q E h => ?_) (fun cdv A outer s H vs Q E hr h => ?_)
  · obtain ⟨I, b, P, s, rp, _⟩ := h
    exact (lenC len0) _ _ _ _ rp
  refine ⟨_, (pss_one (ps_ret (pe_tup (pa_cons (pe_fldK K rfl (pv 0) rfl) (pa_cons (pe_fldK K rfl (pv 0) rfl) (pa_cons (pe_fldK K rfl (pv 0) rfl) (pa_cons (pe_fldK K rfl (pv 0) rfl) (pa_cons (pe_fldK K rfl (pv 0) rfl) (pa_cons (pe_fldK K rfl (pv 0) rfl) (pa_cons (pe_fldK K rfl (pv 0) rfl) pa_nil)))))))))), ?_⟩
  refine fn0 (K := K) (mg := mg) (N := ["self"]) (R := (rTu K (rsC rS (rsC (rO rS) (rsC rI (rsC (rT K (rTu K (rsC rI (rsC rS rs0)))) (rsC rI (rsC rI (rsC (rT K (rTu K (rsC rI (rsC rI (rsC rI rs0))))) rs0))))))))) (prm_cons prm_nil) (fun J I vs b h => by rw [(lenC len0) J I vs b h]; decide) (Γn := fun _ _ => []) (Γl := fun _ _ => []) (fun b => (sb_ret (se_tu 7 (sa_cons (se_fld (fld_Answer_word T) (se_var rfl)) (sa_cons (se_fld (fld_Answer_mark T) (se_var rfl)) (sa_cons (se_fld (fld_Answer_size T) (se_var rfl)) (sa_cons (se_fld (fld_Answer_parts T) (se_var rfl)) (sa_cons (se_fld (fld_Answer_age T) (se_var rfl)) (sa_cons (se_fld (fld_Answer_count T) (se_var rfl)) (sa_cons (se_fld (fld_Answer_ground T) (se_var rfl)) sa_nil))))))) (lenC (lenC (lenC (lenC (lenC (lenC (lenC len0)))))))))) ?_ h
  intro b P h
  exact h
theorem ok_answered (T : Txt K mg) : FnOk P w K mg base CX0 5 T.f_answered T.fd_answered ["ask", "mark", "size", "parts", "age", "count", "rule", "turns", "tags", "ground"] (spF0 (rsC (r_Ask T) (rsC (rO rS) (rsC rI (rsC (rQ K (rTu K (rsC rI (rsC rS rs0)))) (rsC rI (rsC rI (rsC (rO (r_Rule T)) (rsC (rQ K rS) (rsC (rQ K rS) (rsC (rQ K (rTu K (rsC rI (rsC rI (rsC rI rs0))))) rs0)))))))))) (r_Answer T) fun b => fun P _ => OkAsk b.1 ∧ (0 ≤ b.2.2.1 ∧ b.2.2.1 < 1000) ∧ ∃ f S, b.2.2.2.1.l = (partsF f S).map tuP ∧ can S ∧ S.length ≤ 2000 ∧ P ⟨wordA b.1 b.2.1 b.2.2.1, b.2.1, sizeA b.1 b.2.1 b.2.2.1, ⟨outA f S b.1 b.2.1 b.2.2.1⟩, b.2.2.2.2.1, b.2.2.2.2.2.1, (b.2.2.2.2.2.2.1).getD rule0, ⟨b.2.2.2.2.2.2.2.1.l⟩, ⟨b.2.2.2.2.2.2.2.2.1.l⟩, ⟨b.2.2.2.2.2.2.2.2.2.1.l⟩⟩) := by
  refine T.d_answered.F.ok sc_answered (fun vs H Q E h => ?_) (fun cdv A outer s H vs Q E hr h => ?_)
  · obtain ⟨I, b, P, s, rp, _⟩ := h
    exact (lenC (lenC (lenC (lenC (lenC (lenC (lenC (lenC (lenC (lenC len0)))))))))) _ _ _ _ rp
  refine ⟨_, (pss_cons (ps_set (i := 10) sc_answered.nd rfl (.inl rfl) (pe_meth (pv 0) T.cl_Ask T.me_Ask_word_for (ok_Ask_word_for T) (hr.mono (by decide)) T.d_Ask_word_for.b .nil pass0 (pa_cons (pv 1) (pa_cons (pv 2) pa_nil))))
      (pss_one (ps_ret (pe_makeK T.mk_Answer (ok_Answer_init T) (hr.mono (by decide)) (by rfl) T.g_Answer T.kb_1.choose_spec pass0 (pa_cons (pv 10) pa_nil) (pk_cons (pv 1) (pk_cons (pe_ifExp (pt_cmpR op_eq (pv 10) pe_str (nomark _)) pe_int (pv 2)) (pk_cons (pe_ifExp (pt_cmpR (inK K rfl) (pv 10) (pe_glob (v := .ref T.a_BEARS_PARTS) (by rfl) T.g_BEARS_PARTS rfl) rfl) (pe_call (ok_cut T) (hr.mono (by decide)) (by rfl) T.d_cut.g T.d_cut.F.kp T.d_cut.b .nil pass0 (pa_cons (pv 3) (pa_cons (pe_meth (pv 0) T.cl_Ask T.me_Ask_wanted (ok_Ask_wanted T) (hr.mono (by decide)) T.d_Ask_wanted.b .nil pass0 (pa_cons (pv 1) (pa_cons (pv 2) pa_nil))) pa_nil))) (pe_tup pa_nil)) (pk_cons (pv 4) (pk_cons (pv 5) (pk_cons (pv 6) (pk_cons (pv 7) (pk_cons (pv 8) (pk_cons (pv 9) pk_nil))))))))))))), ?_⟩
  refine fn0 (K := K) (mg := mg) (N := ["ask", "mark", "size", "parts", "age", "count", "rule", "turns", "tags", "ground", "word"]) (R := (r_Answer T)) (prm_cons (prm_cons (prm_cons (prm_cons (prm_cons (prm_cons (prm_cons (prm_cons (prm_cons (prm_cons prm_nil)))))))))) (fun J I vs b h => by rw [(lenC (lenC (lenC (lenC (lenC (lenC (lenC (lenC (lenC (lenC len0)))))))))) J I vs b h]; decide) (Γn := fun _ _ => []) (Γl := fun _ _ => []) (fun b => (sb_set (Nat.le_of_ble_eq_true rfl) (se_methF (ndo_Ask_word_for T) (se_var rfl) (sa_cons (se_var rfl) (sa_cons (se_var rfl) sa_nil))) (fun v1 =>
      (sb_ret (se_mkK (f := fun (a : Str × Unit) (b : (Option Str) × Int × (Sq (Tu (Int × Str × Unit))) × Int × Int × (Option RuleR) × (Sq Str) × (Sq Str) × (Sq (Tu (Int × Int × Int × Unit))) × Unit) => (a.1, b.1, b.2.1, b.2.2.1, b.2.2.2.1, b.2.2.2.2.1, b.2.2.2.2.2.1, b.2.2.2.2.2.2.1, b.2.2.2.2.2.2.2.1, b.2.2.2.2.2.2.2.2.1, ())) (lenC len0) (lenC (lenC (lenC (lenC (lenC (lenC (lenC (lenC (lenC len0))))))))) (fun _ _ _ => rfl) (by intro _ _ _ a b h1 h2; obtain ⟨_, _, rfl, p_word, rfl⟩ := h1; obtain ⟨_, _, rfl, p_mark, ⟨_, _, rfl, p_size, ⟨_, _, rfl, p_parts, ⟨_, _, rfl, p_age, ⟨_, _, rfl, p_count, ⟨_, _, rfl, p_rule, ⟨_, _, rfl, p_turns, ⟨_, _, rfl, p_tags, ⟨_, _, rfl, p_ground, rfl⟩⟩⟩⟩⟩⟩⟩⟩⟩ := h2; exact ⟨_, _, rfl, p_word, ⟨_, _, rfl, p_mark, ⟨_, _, rfl, p_size, ⟨_, _, rfl, p_parts, ⟨_, _, rfl, p_age, ⟨_, _, rfl, p_count, ⟨_, _, rfl, p_rule, ⟨_, _, rfl, p_turns, ⟨_, _, rfl, p_tags, ⟨_, _, rfl, p_ground, rfl⟩⟩⟩⟩⟩⟩⟩⟩⟩⟩) (sa_cons (se_var rfl) sa_nil) (sa_cons (se_var rfl) (sa_cons (se_if (st_test (se_op ro_eqS (se_var rfl) se_str)) se_int (se_var rfl)) (sa_cons (se_if (st_test (se_op ro_inST (se_var rfl) (se_tc (zs := ["whole", "part"]) T.q_BEARS_PARTS (by decide)))) (SE.map co_lq (se_call0 (sa_cons (se_var rfl) (sa_cons (SE.map co_lq (SN.se (sn_methL (ndo_Ask_wanted T) (se_var rfl) (sa_cons (SE.get (se_var rfl)) (sa_cons (se_var rfl) sa_nil))))) sa_nil)))) (SE.map co_tq (SE.map (co_tv0 (R := (rTu K (rsC rI (rsC rS rs0))))) (se_tu 0 sa_nil len0)))) (sa_cons (se_var rfl) (sa_cons (se_var rfl) (sa_cons (se_var rfl) (sa_cons (se_var rfl) (sa_cons (se_var rfl) (sa_cons (se_var rfl) sa_nil)))))))))))))) ?_ h
  intro b P h
  simp only [↓reduceIte, decide_eq_true_eq, D.bind, D.pure, D.need, D.any, D.nox] at h ⊢
  obtain ⟨a, m, n, ps, ag, ct, ru, tu, ta, gr, u⟩ := b
  dsimp only at h ⊢
  obtain ⟨ok, hn, f, S, ep, cS, lS, h⟩ := h
  unfold sizeA at h
  have key : ∀ Q : List Pt → Prop, Q (outA f S a m n) → (if wordA a m n ∈ [Str.ofString "whole", Str.ofString "part"] then ∃ k, m = some k ∧ OkAsk a ∧ ∃ f A B, ps.l = (partsF f A).map tuP ∧ (wantA a k n).map tu2 = B.map tu2 ∧ can A ∧ can B ∧ A.length + B.length ≤ 5000 ∧ Q ((partsF f ((meet A B).map (·.2))).map tuP) else Q []) := fun Q q => by
    unfold outA at q
    refine ite2 (fun e => ?_) (fun e => ?_)
    · obtain ⟨k, rfl⟩ := word_some e
      rw [if_pos e] at q
      obtain ⟨c1, c2⟩ := want_can ok k hn.1
      exact ⟨k, rfl, ok, f, S, wantA a k n, ep, rfl, cS, c1, by omega, q⟩
    · rw [if_neg e] at q
      exact q
  refine ⟨ok, ite2 (fun e => ?_) (fun e => ?_)⟩
  · rw [if_pos e] at h
    exact key (fun o => P ⟨wordA a m n, m, 0, ⟨o⟩, ag, ct, ru.getD rule0, ⟨tu.l⟩, ⟨ta.l⟩, ⟨gr.l⟩⟩) h
  · rw [if_neg e] at h
    exact key (fun o => P ⟨wordA a m n, m, n, ⟨o⟩, ag, ct, ru.getD rule0, ⟨tu.l⟩, ⟨ta.l⟩, ⟨gr.l⟩⟩) h

end
end My
set_option synthInstance.maxSize 2000
set_option synthInstance.maxHeartbeats 200000
namespace My
open PySem PySem.Spec PyProof.Rows L2 TL
open Lx hiding ints_of paired_app paired_at Wd
open Lw Ls Mo Ak
section
variable {P : Program} {w : World} {K : PySem.W.Frag} {mg : Str → Option Value} {base : Heap}
theorem ok_law_text (T : Txt K mg) : FnOk P w K mg base CX0 2 T.f_law_text T.fd_law_text ["_law_well_here"] (spW 2 rs0 rS fun b => D.any fun z => z.length ≤ 100) := by
  refine T.d_law_text.F.ok sc_law_text (fun vs H Q E h => ?_) (fun cdv A outer s H vs Q E hr h => ?_)
  · obtain ⟨W, ns, vs', I, b, P, rfl, _, _, _, _, rp, _⟩ := h
    exact congrArg Nat.succ (len0 _ _ _ _ rp)
  refine ⟨_, (pss_cons (ps_set (i := 1) sc_law_text.nd rfl (.inr rfl) pe_str)
      (pss_cons (ps_set (i := 1) sc_law_text.nd rfl (.inr rfl) (pe_op op_add_str (pv 1) pe_str))
      (pss_cons (ps_set (i := 2) sc_law_text.nd rfl (.inl rfl) (pe_call (ok_law_draw T) (hr.mono (by decide)) (by rfl) T.d_law_draw.g T.d_law_draw.F.kp T.d_law_draw.b .nil pass0 (pa_cons (pv 0) (pa_cons pe_int pa_nil))))
      (pss_cons (ps_set (i := 3) sc_law_text.nd rfl (.inl rfl) (pe_ix (ixLK K rfl) (pe_lst (pa_cons pe_int (pa_cons (pe_op op_add pe_int (pe_call (ok_law_draw T) (hr.mono (by decide)) (by rfl) T.d_law_draw.g T.d_law_draw.F.kp T.d_law_draw.b .nil pass0 (pa_cons (pv 0) (pa_cons pe_int pa_nil)))) (pa_cons (pe_op op_add pe_int (pe_call (ok_law_draw T) (hr.mono (by decide)) (by rfl) T.d_law_draw.g T.d_law_draw.F.kp T.d_law_draw.b .nil pass0 (pa_cons (pv 0) (pa_cons pe_int pa_nil)))) (pa_cons (pe_op op_add pe_int (pe_call (ok_law_draw T) (hr.mono (by decide)) (by rfl) T.d_law_draw.g T.d_law_draw.F.kp T.d_law_draw.b .nil pass0 (pa_cons (pv 0) (pa_cons pe_int pa_nil)))) pa_nil))))) (pv 2) (fun _ _ => rfl)))
      (pss_cons (ps_set (i := 4) sc_law_text.nd rfl (.inl rfl) (joinK K rfl (pe_join pe_str (pe_lc (own := [("_law_k", 5)]) (g := gName 5) (tt := tYes) (by rfl) sc_law_text.nd (pi_range1 (by rfl) T.m_range (pa_cons (pv 3) pa_nil)) (blkOk_by (own := [("_law_k", 5)]) (N := ["_law_well_here", "_law_some", "_law_way", "_law_many", "_law_text_here", "_law_k"]) (sc := defScope s_law_text) (by decide +kernel)) (fun _ _ _ _ _ => (pg_name (i := 5) sc_law_text.nd rfl (Or.inl rfl))) (fun _ _ _ _ _ => pts_nil) (fun _ _ _ _ _ => (pe_ix ix_str (pv 1) (pe_call (ok_law_draw T) (hr.mono (by decide)) (by rfl) T.d_law_draw.g T.d_law_draw.F.kp T.d_law_draw.b .nil pass0 (pa_cons (pv 0) (pa_cons pe_int pa_nil))) (fun _ _ => rfl)))))))
      (pss_cons (ps_if (pt_cmpR op_eq (pv 2) pe_int (nomark _))
      (pss_one (ps_set (i := 4) sc_law_text.nd rfl (.inl rfl) (pe_slice sl_str (pe_op op_mulS (pv 4) pe_int) po_none (po_some (pe_op op_add pe_int (pe_call (ok_law_draw T) (hr.mono (by decide)) (by rfl) T.d_law_draw.g T.d_law_draw.F.kp T.d_law_draw.b .nil pass0 (pa_cons (pv 0) (pa_cons pe_int pa_nil))))))))
      pss_nil)
      (pss_one (ps_ret (pv 4))))))))), ?_⟩
  refine fnW (K := K) (mg := mg) (N := ["_law_well_here", "_law_some", "_law_way", "_law_many", "_law_text_here", "_law_k"]) (R := rS) prm_nil (fun J I vs b h => by rw [len0 J I vs b h]; decide) (Γn := fun _ _ => []) (Γl := fun _ _ => []) (fun b => (sb_set (Nat.le_of_ble_eq_true rfl) se_str (fun v1 =>
      (sb_set (Nat.le_of_ble_eq_true rfl) (se_op ro_addS (se_var rfl) se_str) (fun v2 =>
      (sb_set (Nat.le_of_ble_eq_true rfl) (se_draw rfl se_int) (fun v3 =>
      (sb_set (Nat.le_of_ble_eq_true rfl) (se_op ro_ixL (se_lstn (ln_cons se_int (ln_cons (se_op ro_add se_int (se_draw rfl se_int)) (ln_cons (se_op ro_add se_int (se_draw rfl se_int)) (ln_cons (se_op ro_add se_int (se_draw rfl se_int)) ln_nil))))) (se_var rfl)) (fun v4 =>
      (sb_set (Nat.le_of_ble_eq_true rfl) (se_m1 ro_join se_str (se_lc (si_rng1 (sa_cons (se_var rfl) sa_nil)) sg_name (by rfl) (by rfl) (fun x5 => st_yes) (fun x5 => (se_op ro_ixS (se_var rfl) (se_draw rfl se_int))))) (fun v6 =>
      (sb_join (fun s : Str => [⟨.p rS, 4, s⟩]) (st_test (se_op ro_eqI (se_var rfl) se_int))
      (sb_end (sb_set (Nat.le_of_ble_eq_true rfl) (se_sl ro_slS (se_op ro_mulS (se_var rfl) se_int) sp_none (sp_some (se_op ro_add se_int (se_draw rfl se_int)))) (fun v7 =>
      (sb_nextK (ρ := fun s : Str => [⟨.p rS, 4, s⟩]) (s := v7) 1 rfl rfl ⟨.inr rfl, trivial⟩))))
      (sb_nextK (ρ := fun s : Str => [⟨.p rS, 4, s⟩]) (s := v6) 0 rfl rfl ⟨.inr rfl, trivial⟩)
      (fun s8 => (sb_ret (se_var rfl))))))))))))))) ?_ h
  intro b P h
  simp only [↓reduceIte, decide_eq_true_eq, D.bind, D.pure, D.need, D.any, D.nox] at h ⊢
  have lw : (100000 : Int) < limW := by decide +kernel
  have ls : (Str.ofString "").length = 0 := by decide
  refine ⟨by decide, ⟨by decide, by omega⟩, fun way hway => ⟨⟨by decide, by omega⟩, fun d1 q1 => ⟨⟨by decide, by omega⟩, fun d2 q2 => ⟨⟨by decide, by omega⟩, fun d3 q3 => at_draw ⟨hway.1, hway.2⟩ fun many hmany => ?_⟩⟩⟩⟩
  have hm : 0 ≤ many ∧ many ≤ 20 := by
    simp only [List.mem_cons, List.not_mem_nil, or_false] at hmany
    rcases hmany with rfl | rfl | rfl | rfl <;> omega
  refine ⟨by omega, by omega, compD_any (fun _ (z : Str) => z.length ≤ 1) _ _ _ (fun x _ Q q => ⟨⟨by decide, by omega⟩, fun r hr => at_draw ⟨hr.1, by rw [signs94]; exact hr.2⟩ fun c _ => q _ (Nat.le_refl 1)⟩) fun zs hzs => ?_⟩
  obtain ⟨s1, s2⟩ := ones_sum hzs
  rw [rngL_len] at s1 s2
  have jl := join_len (Str.ofString "") zs
  rw [ls, Nat.mul_zero] at jl
  have e100 : Int.toNat 100 = 100 := rfl
  refine ⟨by rw [ls]; omega, ite2 (fun _ => ⟨⟨by rw [e100]; omega, by decide, by decide⟩, ⟨by decide, by omega⟩, fun d4 q4 => h _ (Nat.le_trans (cut_to _ (by omega)) (by omega))⟩) (fun _ => h _ (by omega))⟩
theorem ok_law_span (T : Txt K mg) : FnOk P w K mg base CX0 2 T.f_law_span T.fd_law_span ["_law_well_here", "_law_size"] (spW 2 (rsC rI rs0) (rTu K (rsC (rO rI) (rsC (rO rI) rs0))) fun b => D.need (0 ≤ b.1 ∧ b.1 < 1000) (D.any fun z => spanB z = true)) := by
  refine T.d_law_span.F.ok sc_law_span (fun vs H Q E h => ?_) (fun cdv A outer s H vs Q E hr h => ?_)
  · obtain ⟨W, ns, vs', I, b, P, rfl, _, _, _, _, rp, _⟩ := h
    exact congrArg Nat.succ ((lenC len0) _ _ _ _ rp)
  refine ⟨_, (pss_cons (ps_set (i := 2) sc_law_span.nd rfl (.inl rfl) (pe_call (ok_law_draw T) (hr.mono (by decide)) (by rfl) T.d_law_draw.g T.d_law_draw.F.kp T.d_law_draw.b .nil pass0 (pa_cons (pv 0) (pa_cons pe_int pa_nil))))
      (pss_cons (ps_set (i := 3) sc_law_span.nd rfl (.inl rfl) (pe_call (ok_law_draw T) (hr.mono (by decide)) (by rfl) T.d_law_draw.g T.d_law_draw.F.kp T.d_law_draw.b .nil pass0 (pa_cons (pv 0) (pa_cons (pe_op op_add (pv 1) pe_int) pa_nil))))
      (pss_cons (ps_set (i := 4) sc_law_span.nd rfl (.inl rfl) (pe_op op_add pe_int (pe_call (ok_law_draw T) (hr.mono (by decide)) (by rfl) T.d_law_draw.g T.d_law_draw.F.kp T.d_law_draw.b .nil pass0 (pa_cons (pv 0) (pa_cons (pe_ix (ixLK K rfl) (pe_lst (pa_cons pe_int (pa_cons (pe_op op_add (pv 1) pe_int) pa_nil))) (pe_call (ok_law_draw T) (hr.mono (by decide)) (by rfl) T.d_law_draw.g T.d_law_draw.F.kp T.d_law_draw.b .nil pass0 (pa_cons (pv 0) (pa_cons pe_int pa_nil))) (fun _ _ => rfl)) pa_nil)))))
      (pss_one (ps_ret (pe_ix (ixLK K rfl) (pe_lst (pa_cons (pe_tup (pa_cons (pv 3) (pa_cons (pe_op op_add (pv 3) (pv 4)) pa_nil))) (pa_cons (pe_tup (pa_cons (pv 3) (pa_cons (pe_op op_add (pv 3) (pv 4)) pa_nil))) (pa_cons (pe_tup (pa_cons (pv 3) (pa_cons pe_non pa_nil))) (pa_cons (pe_tup (pa_cons pe_non (pa_cons (pv 4) pa_nil))) (pa_cons (pe_tup (pa_cons (pe_op op_add (pv 3) (pv 1)) (pa_cons (pe_op op_add (pe_op op_add (pv 3) (pv 1)) (pv 4)) pa_nil))) pa_nil)))))) (pv 2) (fun _ _ => rfl))))))), ?_⟩
  refine fnW (K := K) (mg := mg) (N := ["_law_well_here", "_law_size", "_law_way", "_law_low", "_law_many"]) (R := (rTu K (rsC (rO rI) (rsC (rO rI) rs0)))) (prm_cons prm_nil) (fun J I vs b h => by rw [(lenC len0) J I vs b h]; decide) (Γn := fun _ _ => []) (Γl := fun _ _ => []) (fun b => (sb_set (Nat.le_of_ble_eq_true rfl) (se_draw rfl se_int) (fun v1 =>
      (sb_set (Nat.le_of_ble_eq_true rfl) (se_draw rfl (se_op ro_add (se_var rfl) se_int)) (fun v2 =>
      (sb_set (Nat.le_of_ble_eq_true rfl) (se_op ro_add se_int (se_draw rfl (se_op ro_ixL (se_lstn (ln_cons se_int (ln_cons (se_op ro_add (se_var rfl) se_int) ln_nil))) (se_draw rfl se_int)))) (fun v3 =>
      (sb_ret (se_op ro_ixL (se_lstn (ln_cons (se_tu 2 (sa_cons (SE.map co_some_int (se_var rfl)) (sa_cons (SE.map co_some_int (se_op ro_add (se_var rfl) (se_var rfl))) sa_nil)) (lenC (lenC len0))) (ln_cons (se_tu 2 (sa_cons (SE.map co_some_int (se_var rfl)) (sa_cons (SE.map co_some_int (se_op ro_add (se_var rfl) (se_var rfl))) sa_nil)) (lenC (lenC len0))) (ln_cons (se_tu 2 (sa_cons (SE.map co_some_int (se_var rfl)) (sa_cons se_noneO sa_nil)) (lenC (lenC len0))) (ln_cons (se_tu 2 (sa_cons se_noneO (sa_cons (SE.map co_some_int (se_var rfl)) sa_nil)) (lenC (lenC len0))) (ln_cons (se_tu 2 (sa_cons (SE.map co_some_int (se_op ro_add (se_var rfl) (se_var rfl))) (sa_cons (SE.map co_some_int (se_op ro_add (se_op ro_add (se_var rfl) (se_var rfl)) (se_var rfl))) sa_nil)) (lenC (lenC len0))) ln_nil)))))) (se_var rfl)))))))))) ?_ h
  intro b P h
  simp only [↓reduceIte, decide_eq_true_eq, D.bind, D.pure, D.need, D.any, D.nox] at h ⊢
  obtain ⟨hb, h⟩ := h
  have lw : (2000 : Int) < limW := by decide +kernel
  refine ⟨⟨by decide, by omega⟩, fun way hway => ⟨⟨by omega, by omega⟩, fun lo hlo => ⟨⟨by decide, by omega⟩, fun d hd => at_draw ⟨hd.1, hd.2⟩ fun m hm => ?_⟩⟩⟩
  have hm2 : 0 < m ∧ m < 2000 := by
    simp only [List.mem_cons, List.not_mem_nil, or_false] at hm
    rcases hm with rfl | rfl <;> omega
  refine ⟨⟨hm2.1, by omega⟩, fun k hk => at_draw ⟨hway.1, hway.2⟩ fun s hs => h s ?_⟩
  have hk0 := hk.1
  simp only [List.mem_cons, List.not_mem_nil, or_false] at hs
  rcases hs with rfl | rfl | rfl | rfl | rfl <;> simp only [spanB, bndB, edgB, Bool.and_eq_true, decide_eq_true_eq, Bool.true_and, Bool.and_true] <;> omega
theorem ok_law_mark (T : Txt K mg) : FnOk P w K mg base CX0 2 T.f_law_mark T.fd_law_mark ["_law_well_here"] (spW 2 rs0 rS fun b => D.any fun z => mkB z = true) := by
  refine T.d_law_mark.F.ok sc_law_mark (fun vs H Q E h => ?_) (fun cdv A outer s H vs Q E hr h => ?_)
  · obtain ⟨W, ns, vs', I, b, P, rfl, _, _, _, _, rp, _⟩ := h
    exact congrArg Nat.succ (len0 _ _ _ _ rp)
  refine ⟨_, (pss_one (ps_ret (pe_op op_add_str (pe_ix ix_str pe_str (pe_call (ok_law_draw T) (hr.mono (by decide)) (by rfl) T.d_law_draw.g T.d_law_draw.F.kp T.d_law_draw.b .nil pass0 (pa_cons (pv 0) (pa_cons pe_int pa_nil))) (fun _ _ => rfl)) (pe_callTy call_str_int (by rfl) T.m_str (by decide +kernel) (pa_cons (pe_call (ok_law_draw T) (hr.mono (by decide)) (by rfl) T.d_law_draw.g T.d_law_draw.F.kp T.d_law_draw.b .nil pass0 (pa_cons (pv 0) (pa_cons (pe_ix (ixLK K rfl) (pe_lst (pa_cons pe_int (pa_cons (pe_op op_pow pe_int pe_int) pa_nil))) (pe_call (ok_law_draw T) (hr.mono (by decide)) (by rfl) T.d_law_draw.g T.d_law_draw.F.kp T.d_law_draw.b .nil pass0 (pa_cons (pv 0) (pa_cons pe_int pa_nil))) (fun _ _ => rfl)) pa_nil))) pa_nil))))), ?_⟩
  refine fnW (K := K) (mg := mg) (N := ["_law_well_here"]) (R := rS) prm_nil (fun J I vs b h => by rw [len0 J I vs b h]; decide) (Γn := fun _ _ => []) (Γl := fun _ _ => []) (fun b => (sb_ret (se_op ro_addS (se_op ro_ixS se_str (se_draw rfl se_int)) (se_cb ro_strI (sa_cons (se_draw rfl (se_op ro_ixL (se_lstn (ln_cons se_int (ln_cons (se_op ro_pow se_int se_int) ln_nil))) (se_draw rfl se_int))) sa_nil))))) ?_ h
  intro b P h
  simp only [decide_eq_true_eq, D.bind, D.pure, D.need, D.any, D.nox] at h ⊢
  refine ⟨⟨by decide, by decide +kernel⟩, fun a ha => at_draw ⟨ha.1, ha.2⟩ fun c hc => ⟨⟨by decide, by decide, by decide⟩, ⟨by decide, by decide +kernel⟩, fun d hd => at_draw ⟨hd.1, hd.2⟩ fun m hm => ?_⟩⟩
  have hm2 : 0 < m ∧ m ≤ 10 ^ 40 := by
    simp only [List.mem_cons, List.not_mem_nil, or_false] at hm
    rcases hm with rfl | rfl
    · exact ⟨by decide, by decide⟩
    · exact ⟨by decide +kernel, by decide +kernel⟩
  have l40 : (10 : Int) ^ 40 < limW := by decide +kernel
  refine ⟨⟨hm2.1, by omega⟩, fun k hk => ?_⟩
  have l60 : (10 : Int) ^ 40 < 10 ^ 60 := by decide +kernel
  have nk := num_ok60 hk.1 (show k < 10 ^ 60 by omega)
  exact ⟨nk.1, by have := nk.2; show 1 + _ ≤ sizeLine; have zs : sizeLine = 16777216 := (by decide); omega, h _ (mk_of hc hk.1 (by omega))⟩
theorem ok_law_is_told (T : Txt K mg) : FnOk P w K mg base CX0 1 T.f_law_is_told T.fd_law_is_told ["_law_span_here", "_law_place", "_law_size"] (spF0 (rsC (rTu K (rsC (rO rI) (rsC (rO rI) rs0))) (rsC rI (rsC rI rs0))) rB fun b => D.need (good5 (unS b.1)) (D.pure (tells b.2.2.1 b.2.1 (unS b.1)))) := by
  refine T.d_law_is_told.F.ok sc_law_is_told (fun vs H Q E h => ?_) (fun cdv A outer s H vs Q E hr h => ?_)
  · obtain ⟨I, b, P, s, rp, _⟩ := h
    exact (lenC (lenC (lenC len0))) _ _ _ _ rp
  refine ⟨_, (pss_cons (ps_asg (pv 0) (pg_tup rfl (pgs_cons (pg_name (i := 3) sc_law_is_told.nd rfl (.inl rfl)) (pgs_cons (pg_name (i := 4) sc_law_is_told.nd rfl (.inl rfl)) pgs_nil))))
      (pss_cons (ps_if (pt_cmpR op_isN (pv 3) pe_non (nomark _))
      (pss_one (ps_ret (pe_cmpR op_le (pe_op op_sub (pv 2) (pv 4)) (pv 1) (nomark _))))
      pss_nil)
      (pss_one (ps_ret (pe_and (pe_cmpR op_le (pv 3) (pv 1) (nomark _)) (pe_one (pe_or (pe_cmpR op_isN (pv 4) pe_non (nomark _)) (pe_one (pe_cmpR op_lt (pv 1) (pv 4) (nomark _)))))))))), ?_⟩
  refine fn0 (K := K) (mg := mg) (N := ["_law_span_here", "_law_place", "_law_size", "_law_low", "_law_high"]) (R := rB) (prm_cons (prm_cons (prm_cons prm_nil))) (fun J I vs b h => by rw [(lenC (lenC (lenC len0))) J I vs b h]; decide) (Γn := fun _ _ => []) (Γl := fun _ _ => []) (fun b => (sb_asg (sg_tup (sgs_cons (sgs_cons sgs_nil)) (lenC (lenC len0))) rfl (se_var rfl) (fun v1 =>
      (sb_ifq (st_test (se_op ro_isN (se_var rfl) se_non))
      (sb_ret (se_op ro_le (se_op ro_sub (se_var rfl) (SE.get (se_var rfl))) (se_var rfl)))
      (sb_ret (se_and (se_op ro_le (SE.get (se_var rfl)) (se_var rfl)) (se_or (se_op ro_isN (se_var rfl) se_non) (se_op ro_lt (se_var rfl) (SE.get (se_var rfl)))))))))) ?_ h
  intro b P h
  simp only [decide_eq_true_eq, D.bind, D.pure, D.need, D.any, D.nox] at h ⊢
  obtain ⟨⟨⟨lo, hi, u⟩⟩, x, n, u2⟩ := b
  obtain ⟨g, h⟩ := h
  dsimp only [unS] at g h ⊢
  cases lo with
  | none => cases hi with
    | none => exact g.elim
    | some b => exact iteT' rfl ⟨b, rfl, h⟩
  | some a =>
    refine iteF' (by simp) ⟨a, rfl, ?_⟩
    cases hi with
    | none =>
      simp only [tells] at h
      refine ite2 (fun e => iteT' rfl ?_) (fun e => ?_)
      · rw [decide_eq_true e] at h
        exact h
      · rw [decide_eq_false e] at h
        exact h
    | some b =>
      simp only [tells] at h
      refine ite2 (fun e => iteF' (by simp) ⟨b, rfl, ?_⟩) (fun e => ?_)
      · rw [decide_eq_true e, Bool.true_and] at h
        exact h
      · rw [decide_eq_false e, Bool.false_and] at h
        exact h
theorem ok_law_wants_all (T : Txt K mg) : FnOk P w K mg base CX0 1 T.f_law_wants_all T.fd_law_wants_all ["_law_case_here", "_law_mark_here"] (spF0 (rsC (rTu K (rsC (rL (rTu K (rsC (rO rI) (rsC (rO rI) rs0)))) (rsC (rL rS) (rsC (rO rS) rs0)))) (rsC (rO rS) rs0)) rB fun b => D.need (∀ m, b.1.r.2.2.1 = some m → mkB m = true) (D.pure (lawW b.1.r.1 b.1.r.2.2.1 b.2.1))) := by
  refine T.d_law_wants_all.F.ok sc_law_wants_all (fun vs H Q E h => ?_) (fun cdv A outer s H vs Q E hr h => ?_)
  · obtain ⟨I, b, P, s, rp, _⟩ := h
    exact (lenC (lenC len0)) _ _ _ _ rp
  refine ⟨_, (pss_cons (ps_asg (pv 0) (pg_tup rfl (pgs_cons (pg_name (i := 2) sc_law_wants_all.nd rfl (.inl rfl)) (pgs_cons (pg_name (i := 3) sc_law_wants_all.nd rfl (.inl rfl)) (pgs_cons (pg_name (i := 4) sc_law_wants_all.nd rfl (.inl rfl)) pgs_nil)))))
      (pss_one (ps_ret (pe_or (pe_cmpR (eqDK K rfl hr.units) (pv 2) (pe_lst pa_nil) (nomark _)) (pe_one (pe_and (pe_cmpR op_notN (pv 4) pe_non (nomark _)) (pe_one (pe_or (pe_cmpR (neDK K rfl hr.units) (pv 4) (pv 1) (nomark _)) (pe_one (pe_cmpR op_eq (pe_ix ix_str (pv 4) pe_int (fun _ _ => rfl)) pe_str (nomark _))))))))))), ?_⟩
  refine fn0 (K := K) (mg := mg) (N := ["_law_case_here", "_law_mark_here", "_law_pieces", "_law_mine", "_law_other"]) (R := rB) (prm_cons (prm_cons prm_nil)) (fun J I vs b h => by rw [(lenC (lenC len0)) J I vs b h]; decide) (Γn := fun _ _ => []) (Γl := fun _ _ => []) (fun b => (sb_asg (sg_tup (sgs_cons (sgs_cons (sgs_cons sgs_nil))) (lenC (lenC (lenC len0)))) rfl (se_var rfl) (fun v1 =>
      (sb_ret (se_or (se_op ro_eqD (se_var rfl) (se_lstn (ln_nil (R := (rTu K (rsC (rO rI) (rsC (rO rI) rs0))))))) (se_and (se_op ro_notN (se_var rfl) se_non) (se_or (se_op ro_neD (se_var rfl) (se_var rfl)) (se_op ro_eqS (se_op ro_ixS (SE.get (se_var rfl)) se_int) se_str)))))))) ?_ h
  intro b P h
  simp only [↓reduceIte, decide_eq_true_eq, D.bind, D.pure, D.need, D.any, D.nox] at h ⊢
  obtain ⟨⟨⟨ps, mine, oth, u⟩⟩, mark, u2⟩ := b
  dsimp only at h ⊢
  obtain ⟨hm, h⟩ := h
  refine ite2 (fun e => ?_) (fun e => ?_)
  · rw [show lawW ps oth mark = true by unfold lawW; rw [show ps.isEmpty = true from List.isEmpty_iff.mpr e]; rfl] at h
    exact h
  have e2 : ps.isEmpty = false := by
    cases ps with
    | nil => exact absurd rfl e
    | cons _ _ => rfl
  cases oth with
  | none =>
    rw [show lawW ps none mark = false by unfold lawW; rw [e2]; rfl] at h
    exact iteF' (by simp) h
  | some k =>
    refine iteT' rfl ?_
    by_cases z : some k = mark
    · have hk := hm k rfl
      have hw : lawW ps (some k) mark = !strongB k := by unfold lawW; rw [e2]; simp [z]
      obtain ⟨c, r, e3⟩ := mk_ne hk
      refine iteF' (by simp [z]) ⟨k, rfl, c, by rw [e3]; exact atI_nat (j := 0) rfl, ?_⟩
      show P (decide ((⟨#[c]⟩ : Str) = Str.ofString "w"))
      have e5 : decide ((⟨#[c]⟩ : Str) = Str.ofString "w") = !strongB k := by
        cases z2 : strongB k with
        | true => exact decide_eq_false fun q => by rw [(weak_eq e3 hk).mp q] at z2; cases z2
        | false => exact decide_eq_true ((weak_eq e3 hk).mpr z2)
      rw [e5, ← hw]
      exact h
    · rw [show lawW ps (some k) mark = true by unfold lawW; rw [e2]; simp [z]] at h
      exact iteT' (by simp [z]) h
theorem ok_law_places (T : Txt K mg) : FnOk P w K mg base CX0 2 T.f_law_places T.fd_law_places ["_law_case_here", "_law_mark_here", "_law_size"] (spF0 (rsC (rTu K (rsC (rL (rTu K (rsC (rO rI) (rsC (rO rI) rs0)))) (rsC (rL rS) (rsC (rO rS) rs0)))) (rsC (rO rS) (rsC rI rs0))) (rL rI) fun b => D.need ((0 ≤ b.2.2.1 ∧ b.2.2.1 < 1000) ∧ (∀ s ∈ b.1.r.1, good5 (unS s)) ∧ ∀ m, b.1.r.2.2.1 = some m → mkB m = true) (D.pure (placesT b.1.r.1 b.1.r.2.2.1 b.2.1 b.2.2.1))) := by
  refine T.d_law_places.F.ok sc_law_places (fun vs H Q E h => ?_) (fun cdv A outer s H vs Q E hr h => ?_)
  · obtain ⟨I, b, P, s, rp, _⟩ := h
    exact (lenC (lenC (lenC len0))) _ _ _ _ rp
  refine ⟨_, (pss_cons (ps_if (pt_val (pe_call (ok_law_wants_all T) (hr.mono (by decide)) (by rfl) T.d_law_wants_all.g T.d_law_wants_all.F.kp T.d_law_wants_all.b .nil pass0 (pa_cons (pv 0) (pa_cons (pv 1) pa_nil))))
      (pss_one (ps_ret (pe_lc (own := [("_law_place", 3)]) (g := gName 3) (tt := tYes) (by rfl) sc_law_places.nd (pi_range1 (by rfl) T.m_range (pa_cons (pv 2) pa_nil)) (blkOk_by (own := [("_law_place", 3)]) (N := ["_law_case_here", "_law_mark_here", "_law_size", "_law_place", "_law_span_here"]) (sc := defScope s_law_places) (by decide +kernel)) (fun _ _ _ _ _ => (pg_name (i := 3) sc_law_places.nd rfl (by first | exact Or.inl rfl | exact Or.inr rfl))) (fun _ _ _ _ _ => pts_nil) (fun _ _ _ _ _ => (pv 3)))))
      pss_nil)
      (pss_one (ps_ret (pe_lc (own := [("_law_place", 3)]) (g := gName 3) (by rfl) sc_law_places.nd (pi_range1 (by rfl) T.m_range (pa_cons (pv 2) pa_nil)) (blkOk_by (own := [("_law_place", 3)]) (N := ["_law_case_here", "_law_mark_here", "_law_size", "_law_place", "_law_span_here"]) (sc := defScope s_law_places) (by decide +kernel)) (fun _ _ _ _ _ => (pg_name (i := 3) sc_law_places.nd rfl (by first | exact Or.inl rfl | exact Or.inr rfl))) (fun _ _ _ _ _ => (pts_one (pt_val (pe_callB (anyK K rfl rfl) (by rfl) T.m_any (by decide +kernel) (pa_cons (pe_lc (own := [("_law_span_here", 4)]) (g := gName 4) (tt := tYes) (by rfl) sc_law_places.nd (pi_listK K rfl (pe_ix (ixTK K rfl) (pv 0) pe_int (fun _ _ => rfl))) (blkOk_by (own := [("_law_span_here", 4)]) (N := ["_law_case_here", "_law_mark_here", "_law_size", "_law_place", "_law_span_here"]) (sc := ⟨ScopeKind.function, [(".0", NameKind.local), ("_law_place", NameKind.cell), ("any", NameKind.globalImplicit), ("_law_case_here", NameKind.cell), ("_law_size", NameKind.cell)], false, false, []⟩) (by decide +kernel)) (fun _ _ _ _ _ => (pg_name (i := 4) sc_law_places.nd rfl (Or.inl rfl))) (fun _ _ _ _ _ => pts_nil) (fun _ _ _ _ _ => (pe_call (ok_law_is_told T) (hr.mono (by decide)) (by rfl) T.d_law_is_told.g T.d_law_is_told.F.kp T.d_law_is_told.b .nil pass0 (pa_cons (pv 4) (pa_cons (pv 3) (pa_cons (pv 2) pa_nil)))))) pa_nil))))) (fun _ _ _ _ _ => (pv 3)))))), ?_⟩
  refine fn0 (K := K) (mg := mg) (N := ["_law_case_here", "_law_mark_here", "_law_size", "_law_place", "_law_span_here"]) (R := (rL rI)) (prm_cons (prm_cons (prm_cons prm_nil))) (fun J I vs b h => by rw [(lenC (lenC (lenC len0))) J I vs b h]; decide) (Γn := fun _ _ => []) (Γl := fun _ _ => []) (fun b => (sb_ifq (st_val (se_call0 (sa_cons (se_var rfl) (sa_cons (se_var rfl) sa_nil))))
      (sb_ret (se_lc (si_rng1 (sa_cons (se_var rfl) sa_nil)) sg_name (by rfl) (by rfl) (fun x1 => st_yes) (fun x1 => (se_var rfl))))
      (sb_ret (se_lc (si_rng1 (sa_cons (se_var rfl) sa_nil)) sg_name (by rfl) (by rfl) (fun x2 => (st_val (se_cb ro_any (sa_cons (se_lc (si_list (se_tu0 (se_var rfl))) sg_name (by rfl) (by rfl) (fun x3 => st_yes) (fun x3 => (se_call0 (sa_cons (se_var rfl) (sa_cons (se_var rfl) (sa_cons (se_var rfl) sa_nil)))))) sa_nil)))) (fun x2 => (se_var rfl)))))) ?_ h
  intro b P h
  simp only [↓reduceIte, decide_eq_true_eq, D.bind, D.pure, D.need, D.any, D.nox] at h ⊢
  obtain ⟨⟨⟨ps, mine, oth, u⟩⟩, mark, n, u2⟩ := b
  dsimp only at h ⊢
  obtain ⟨⟨hn, hg, hm⟩, h⟩ := h
  unfold placesT at h
  have all : ∀ Q : List Int → Prop, Q (rngL 0 n.toNat) → (n ≤ 16000000 ∧ -2 ^ 62 ≤ n ∧ compD (fun x3 => D.pure true) (fun x3 => D.pure x3) (rngL 0 n.toNat) Q fun x => False) := fun Q q => ⟨by omega, by omega, by
    refine compD_fun (fun _ => true) (fun x : Int => x) _ _ _ (fun _ _ _ q => q) (fun _ _ _ _ q => q) ?_
    rw [List.filter_eq_self.mpr (fun _ _ => rfl), List.map_id']
    exact q⟩
  have some_ : ∀ Q : List Int → Prop, Q ((rngL 0 n.toNat).filter fun x => ps.any fun s => tells n x (unS s)) → (n ≤ 16000000 ∧ -2 ^ 62 ≤ n ∧ compD (fun x4 => ((((D.pure (Tu.mk (ps, mine, oth, u))).bind fun t => D.pure t.r.fst).bind fun ys => compD (fun x5 => D.pure true) (fun x5 => ((D.pure x5).bind fun a => ((D.pure x4).bind fun a => ((D.pure n).bind fun a => (D.pure ()).bind fun b => D.pure (a, b)).bind fun b => D.pure (a, b)).bind fun b => D.pure (a, b)).bind fun b => (D.need (good5 (unS b.fst)) (D.pure (tells b.snd.snd.fst b.snd.fst (unS b.fst)))).nox) ys).bind fun a => (D.pure ()).bind fun b => D.pure (a, b)).bind fun b => D.pure (b.fst.any id)) (fun x3 => D.pure x3) (rngL 0 n.toNat) Q fun x => False) := fun Q q => ⟨by omega, by omega, by
    refine compD_fun (fun x => ps.any fun s => tells n x (unS s)) (fun x : Int => x) _ _ _ (fun x hx Q q => ?_) (fun _ _ _ _ q => q) ?_
    · refine compD_fun (fun _ => true) (fun s => tells n x (unS s)) _ _ _ (fun _ _ _ q => q) (fun s hs _ _ q => ⟨hg s hs, q⟩) ?_
      rw [List.filter_eq_self.mpr (fun _ _ => rfl)]
      show Q ((ps.map fun s => tells n x (unS s)).any id)
      rw [List.any_map]
      exact q
    · rw [List.map_id']
      exact q⟩
  refine ⟨hm, ite2 (fun e => ?_) (fun e => ?_)⟩
  · rw [if_pos e] at h
    exact all _ h
  · rw [if_neg e] at h
    exact some_ _ h
theorem ok_law_word (T : Txt K mg) : FnOk P w K mg base CX0 2 T.f_law_word T.fd_law_word ["_law_case_here", "_law_mark_here", "_law_places_here"] (spF0 (rsC (rTu K (rsC (rL (rTu K (rsC (rO rI) (rsC (rO rI) rs0)))) (rsC (rL rS) (rsC (rO rS) rs0)))) (rsC (rO rS) (rsC (rL rI) rs0))) rS fun b => D.need (∀ m, b.1.r.2.2.1 = some m → mkB m = true) (D.pure (wordV b.1.r.1 b.1.r.2.1 b.1.r.2.2.1 b.2.1 b.2.2.1))) := by
  refine T.d_law_word.F.ok sc_law_word (fun vs H Q E h => ?_) (fun cdv A outer s H vs Q E hr h => ?_)
  · obtain ⟨I, b, P, s, rp, _⟩ := h
    exact (lenC (lenC (lenC len0))) _ _ _ _ rp
  refine ⟨_, (pss_cons (ps_if (pt_cmpR op_isN (pv 1) pe_non (nomark _))
      (pss_one (ps_ret pe_str))
      pss_nil)
      (pss_cons (ps_if (pt_cmpR (inK K rfl) (pv 1) (pe_ix (ixTK K rfl) (pv 0) pe_int (fun _ _ => rfl)) rfl)
      (pss_one (ps_ret pe_str))
      pss_nil)
      (pss_cons (ps_if (pt_val (pe_call (ok_law_wants_all T) (hr.mono (by decide)) (by rfl) T.d_law_wants_all.g T.d_law_wants_all.F.kp T.d_law_wants_all.b .nil pass0 (pa_cons (pv 0) (pa_cons (pv 1) pa_nil))))
      (pss_one (ps_ret pe_str))
      pss_nil)
      (pss_one (ps_ret (pe_ifExp (pt_cmpR (eqDK K rfl hr.units) (pv 2) (pe_lst pa_nil) (nomark _)) pe_str pe_str)))))), ?_⟩
  refine fn0 (K := K) (mg := mg) (N := ["_law_case_here", "_law_mark_here", "_law_places_here"]) (R := rS) (prm_cons (prm_cons (prm_cons prm_nil))) (fun J I vs b h => by rw [(lenC (lenC (lenC len0))) J I vs b h]; decide) (Γn := fun _ _ => []) (Γl := fun _ _ => []) (fun b => (sb_ifq (st_test (se_op ro_isN (se_var rfl) se_non))
      (sb_ret se_str)
      (sb_ifq (st_test (se_op ro_inSL (SE.get (se_var rfl)) (se_tu1 (se_var rfl))))
      (sb_ret se_str)
      (sb_ifq (st_val (se_call0 (sa_cons (se_var rfl) (sa_cons (se_var rfl) sa_nil))))
      (sb_ret se_str)
      (sb_ret (se_if (st_test (se_op ro_eqD (se_var rfl) (se_lstn (ln_nil (R := rI))))) se_str se_str)))))) ?_ h
  intro b P h
  simp only [↓reduceIte, decide_eq_true_eq, D.bind, D.pure, D.need, D.any, D.nox] at h ⊢
  obtain ⟨⟨⟨ps, mine, oth, u⟩⟩, mark, xs, u2⟩ := b
  dsimp only at h ⊢
  obtain ⟨hm, h⟩ := h
  cases mark with
  | none => exact iteT' rfl h
  | some k =>
    have h : P (if k ∈ mine then Str.ofString "same" else if lawW ps oth (some k) = true then Str.ofString "whole" else if xs = [] then Str.ofString "beyond" else Str.ofString "part") := h
    refine iteF' (by simp) ⟨k, rfl, ite2 (fun e => ?_) (fun e => ⟨hm, ite2 (fun e2 => ?_) (fun e2 => ite2 (fun e3 => ?_) (fun e3 => ?_))⟩)⟩
    · rw [if_pos e] at h
      exact h
    · rw [if_neg e, if_pos e2] at h
      exact h
    · rw [if_neg e, if_neg e2, if_pos e3] at h
      exact h
    · rw [if_neg e, if_neg e2, if_neg e3] at h
      exact h
theorem ok_law_parts (T : Txt K mg) : FnOk P w K mg base CX0 1 T.f_law_parts T.fd_law_parts ["_law_text_here", "_law_places_here"] (spF0 (rsC rS (rsC (rL rI) rs0)) (rL (rTu K (rsC rI (rsC rS rs0)))) fun b => D.need ((b.2.1.Pairwise (· < ·) ∧ ∀ x ∈ b.2.1, 0 ≤ x ∧ x < (b.1.length : Int)) ∧ b.1.length ≤ 1000) (D.pure ((partsF (sgn b.1) (jn (b.2.1.map fun x => (x, x + 1)))).map tuP))) := by
  refine T.d_law_parts.F.ok sc_law_parts (fun vs H Q E h => ?_) (fun cdv A outer s H vs Q E hr h => ?_)
  · obtain ⟨I, b, P, s, rp, _⟩ := h
    exact (lenC (lenC len0)) _ _ _ _ rp
  refine ⟨_, (pss_cons (ps_set (i := 2) sc_law_parts.nd rfl (.inl rfl) (pe_lst pa_nil))
      (pss_cons (ps_for PassesOwn.never rfl (pi_listK K rfl (pv 1)) (pg_name (i := 3) sc_law_parts.nd rfl (.inl rfl))
      (pss_one (ps_if (PW.pt (pw_and (pt_cmpR (neDK K rfl hr.units) (pv 2) (pe_lst pa_nil) (nomark _)) (pw_and1 (pt_cmpR op_eq (pe_op op_add (pe_ix (ixTK K rfl) (pe_ix (ixLK K rfl) (pv 2) (pe_un un_neg pe_int) (fun _ _ => rfl)) pe_int (fun _ _ => rfl)) (pe_callB call_len_str (by rfl) T.m_len (by decide +kernel) (pa_cons (pe_ix (ixTK K rfl) (pe_ix (ixLK K rfl) (pv 2) (pe_un un_neg pe_int) (fun _ _ => rfl)) pe_int (fun _ _ => rfl)) pa_nil))) (pv 3) (nomark _)))))
      (pss_one (ps_asg (pe_tup (pa_cons (pe_ix (ixTK K rfl) (pe_ix (ixLK K rfl) (pv 2) (pe_un un_neg pe_int) (fun _ _ => rfl)) pe_int (fun _ _ => rfl)) (pa_cons (pe_op op_add_str (pe_ix (ixTK K rfl) (pe_ix (ixLK K rfl) (pv 2) (pe_un un_neg pe_int) (fun _ _ => rfl)) pe_int (fun _ _ => rfl)) (pe_ix ix_str (pv 0) (pv 3) (fun _ _ => rfl))) pa_nil))) (pg_sub (pv 2) (pe_un un_neg pe_int) set_list)))
      (pss_one (ps_expr (bmK K rfl (pe_bm PySem.F.plainAttrs_list PySem.F.slot_list_append PySem.F.type_list_append mt_append (pv 2) (pa_cons (pe_tup (pa_cons (pv 3) (pa_cons (pe_ix ix_str (pv 0) (pv 3) (fun _ _ => rfl)) pa_nil))) pa_nil))))))))
      (pss_one (ps_ret (pv 2))))), ?_⟩
  refine fn0 (K := K) (mg := mg) (N := ["_law_text_here", "_law_places_here", "_law_found", "_law_place"]) (R := (rL (rTu K (rsC rI (rsC rS rs0))))) (prm_cons (prm_cons prm_nil)) (fun J I vs b h => by rw [(lenC (lenC len0)) J I vs b h]; decide) (Γn := fun _ _ => []) (Γl := fun _ _ => []) (fun b => (sb_nilL (rTu K (rsC rI (rsC rS rs0))) (Nat.le_of_ble_eq_true rfl)
      (sb_loop (s0 := []) (fun s : (List (Tu (Int × Str × Unit))) => [⟨.l (rTu K (rsC rI (rsC rS rs0))), 2, s⟩, ⟨.x, 3, ()⟩]) (si_list (se_var rfl)) sg_name rfl ⟨.inr rfl, .inl rfl, trivial⟩ (fun x2 s1 =>
      (sb_if (st_and (st_test (se_op ro_neD (se_varl rfl) (se_lstn (ln_nil (R := (rTu K (rsC rI (rsC rS rs0)))))))) (st_test (se_op ro_eqI (se_op ro_add (se_tu0 (se_op ro_ixL (se_varl rfl) (se_un ro_neg se_int))) (se_cb ro_lenS (sa_cons (se_tu1 (se_op ro_ixL (se_varl rfl) (se_un ro_neg se_int))) sa_nil))) (se_var rfl))))
      (sb_end (sb_setI rfl (se_tu 2 (sa_cons (se_tu0 (se_op ro_ixL (se_varl rfl) (se_un ro_neg se_int))) (sa_cons (se_op ro_addS (se_tu1 (se_op ro_ixL (se_varl rfl) (se_un ro_neg se_int))) (se_op ro_ixS (se_var rfl) (se_var rfl))) sa_nil)) (lenC (lenC len0))) (se_un ro_neg se_int) (fun v3 =>
      (sb_nextK (ρ := fun s : (List (Tu (Int × Str × Unit))) => [⟨.l (rTu K (rsC rI (rsC rS rs0))), 2, s⟩, ⟨.x, 3, ()⟩]) (s := v3) 4 rfl rfl ⟨.inr rfl, .inl rfl, trivial⟩))))
      (sb_end (sb_app rfl (se_tu 2 (sa_cons (se_var rfl) (sa_cons (se_op ro_ixS (se_var rfl) (se_var rfl)) sa_nil)) (lenC (lenC len0))) (fun v4 =>
      (sb_nextK (ρ := fun s : (List (Tu (Int × Str × Unit))) => [⟨.l (rTu K (rsC rI (rsC rS rs0))), 2, s⟩, ⟨.x, 3, ()⟩]) (s := (s1 ++ [v4])) 4 rfl rfl ⟨.inr rfl, .inl rfl, trivial⟩))))))
      (fun s5 => (sb_frz 2 rfl (sb_ret (se_var rfl))))))) ?_ h
  intro b P h
  simp only [↓reduceIte, decide_eq_true_eq, D.bind, D.pure, D.need, D.any, D.nox] at h ⊢
  obtain ⟨z, xs, u⟩ := b
  dsimp only at h ⊢
  obtain ⟨⟨⟨hp, hx⟩, hz⟩, h⟩ := h
  have zs : sizeLine = 16777216 := by decide
  refine forD_pre (fun pre s => s = (partsF (sgn z) (jn (pre.map fun x => (x, x + 1)))).map tuP) rfl (fun pre x post s e hI k hk => ?_) (fun s hI => by rw [hI]; exact h)
  have hx1 := hx x (by rw [e]; simp)
  have hpre : (pre ++ [x]).Pairwise (· < ·) := by
    rw [e, show pre ++ x :: post = (pre ++ [x]) ++ post by simp] at hp
    exact (List.pairwise_append.mp hp).1
  have inb : ∀ y ∈ pre, 0 ≤ y ∧ y < (z.length : Int) := fun y hy => hx y (by rw [e]; simp [hy])
  obtain ⟨c, _, hc⟩ := atI_in (xs := z.cps.toList) hx1.1 (by have := My.len_tl z; have q : z.cps.toList.length = z.length := this; rw [q]; exact hx1.2)
  have one := txt_one hx1.1 hc hx1.2
  have lpre : (jn (pre.map fun x => (x, x + 1))).length ≤ pre.length := by
    have := jn_len (pre.map fun x => (x, x + 1))
    rwa [List.length_map] at this
  have l0 : pre.length ≤ 1000 := by
    have lx : ∀ (ys : List Int) (lo : Int), ys.Pairwise (· < ·) → (∀ y ∈ ys, lo ≤ y ∧ y < (z.length : Int)) → (ys.length : Int) ≤ max 0 ((z.length : Int) - lo) := fun ys => by
      induction ys with
      | nil => intro lo _ _; simp only [List.length_nil]; omega
      | cons y r ih =>
        intro lo hp hb
        obtain ⟨p1, p2⟩ := List.pairwise_cons.mp hp
        have b1 := hb y (List.mem_cons_self ..)
        have := ih (y + 1) p2 fun w hw => ⟨by have := p1 w hw; omega, (hb w (List.mem_cons_of_mem _ hw)).2⟩
        rw [List.length_cons]
        omega
    have := lx pre 0 ((List.pairwise_append.mp hpre).1) inb
    omega
  have ls : s.length ≤ 1000 := by
    rw [hI, List.length_map]
    unfold partsF
    rw [List.length_map]
    omega
  rcases parts_step (z := z) hpre with ⟨j0, j1⟩ | ⟨r, q, j0, hq, j1⟩
  · rw [j0] at hI
    have hI : s = [] := hI
    rw [hI]
    refine iteF' (by simp) ⟨c, hc, by show 0 < _; omega, hk _ ?_⟩
    rw [j1]
    unfold partsF
    rw [List.map_singleton, List.map_singleton, one]
    rfl
  · rw [j0, partsF_app] at hI
    have hl : (partsF (sgn z) [q]).map tuP = [tuP (q.1, txtF (sgn z) q.1 q.2)] := rfl
    rw [hl] at hI
    have lq : ((txtF (sgn z) q.1 q.2).length : Int) = q.2 - q.1 := by
      rw [txtF_len]
      omega
    have al := Ls.atI_last ((partsF (sgn z) r).map tuP) (tuP (q.1, txtF (sgn z) q.1 q.2))
    rw [← hI] at al
    have ne : ¬ s = [] := by rw [hI]; simp
    have six : s.length = ((partsF (sgn z) r).map tuP).length + 1 := by rw [hI, List.length_append]; rfl
    refine iteT' (by simp [ne]) ⟨_, al, _, al, ?_⟩
    show if q.1 + ((txtF (sgn z) q.1 q.2).length : Int) = x then _ else _
    rw [lq]
    rcases j1 with ⟨e2, j1⟩ | ⟨e2, j1⟩
    · have hq2 : q.2 ≤ (z.length : Int) := by omega
      refine iteT' (by omega) ⟨_, al, _, al, c, hc, ?_, ((partsF (sgn z) r).map tuP).length, by rw [six]; exact ixN_last _, hk _ ?_⟩
      · show (txtF (sgn z) q.1 q.2).length + 1 ≤ sizeLine
        have hmin : 0 ≤ q.1 := by
          have hy := (rows_ok (List.pairwise_append.mp hpre).1).2 q.1
          have : q.1 ∈ pre := hy.mp ⟨q, by rw [j0]; simp, Int.le_refl _, hq⟩
          exact (inb _ this).1
        omega
      · rw [j1, partsF_app, hI, set_last]
        show _ = _ ++ [tuP (q.1, txtF (sgn z) q.1 (x + 1))]
        rw [← txtF_app (f := sgn z) (a := q.1) (b := x) (c := x + 1) (by omega) (by omega), one, ← e2]
        rfl
    · refine iteF' (by omega) ⟨c, hc, by omega, hk _ ?_⟩
      rw [j1, partsF_app, partsF_app, hI]
      show _ = _ ++ [tuP (q.1, txtF (sgn z) q.1 q.2)] ++ [tuP (x, txtF (sgn z) x (x + 1))]
      rw [one]
      rfl
theorem ok_law_known (T : Txt K mg) : FnOk P w K mg base CX0 2 T.f_law_known T.fd_law_known ["_law_well_here", "_law_places_here", "_law_size"] (spW 2 (rsC (rL rI) (rsC rI rs0)) (rL rI) fun b => D.need ((b.1.Pairwise (· < ·) ∧ ∀ x ∈ b.1, 0 ≤ x ∧ x < b.2.1) ∧ 0 ≤ b.2.1 ∧ b.2.1 < 1000) (D.any fun z => (z.Pairwise (· < ·) ∧ ∀ x ∈ z, 0 ≤ x ∧ x < b.2.1) ∧ ∀ x ∈ b.1, x ∈ z)) := by
  refine T.d_law_known.F.ok sc_law_known (fun vs H Q E h => ?_) (fun cdv A outer s H vs Q E hr h => ?_)
  · obtain ⟨W, ns, vs', I, b, P, rfl, _, _, _, _, rp, _⟩ := h
    exact congrArg Nat.succ ((lenC (lenC len0)) _ _ _ _ rp)
  refine ⟨_, (pss_cons (ps_set (i := 3) sc_law_known.nd rfl (.inl rfl) (pe_call (ok_law_draw T) (hr.mono (by decide)) (by rfl) T.d_law_draw.g T.d_law_draw.F.kp T.d_law_draw.b .nil pass0 (pa_cons (pv 0) (pa_cons pe_int pa_nil))))
      (pss_cons (ps_if (pt_cmpR op_eq (pv 3) pe_int (nomark _))
      (pss_one (ps_ret (pe_lc (own := [("_law_place", 5)]) (g := gName 5) (tt := tYes) (by rfl) sc_law_known.nd (pi_range1 (by rfl) T.m_range (pa_cons (pv 2) pa_nil)) (blkOk_by (own := [("_law_place", 5)]) (N := ["_law_well_here", "_law_places_here", "_law_size", "_law_way", "_law_others", "_law_place"]) (sc := defScope s_law_known) (by decide +kernel)) (fun _ _ _ _ _ => (pg_name (i := 5) sc_law_known.nd rfl (Or.inl rfl))) (fun _ _ _ _ _ => pts_nil) (fun _ _ _ _ _ => (pv 5)))))
      pss_nil)
      (pss_cons (ps_if (pt_cmpR op_eq (pv 3) pe_int (nomark _))
      (pss_one (ps_ret (pv 1)))
      pss_nil)
      (pss_cons (ps_set (i := 4) sc_law_known.nd rfl (.inr rfl) (pe_lc (own := [("_law_place", 5)]) (g := gName 5) (tt := tYes) (by rfl) sc_law_known.nd (pi_range1 (by rfl) T.m_range (pa_cons (pv 2) pa_nil)) (blkOk_by (own := [("_law_place", 5)]) (N := ["_law_well_here", "_law_places_here", "_law_size", "_law_way", "_law_others", "_law_place"]) (sc := defScope s_law_known) (by decide +kernel)) (fun _ _ _ _ _ => (pg_name (i := 5) sc_law_known.nd rfl (Or.inl rfl))) (fun _ _ _ _ _ => pts_nil) (fun _ _ _ _ _ => (pe_cmpR op_eq (pe_call (ok_law_draw T) (hr.mono (by decide)) (by rfl) T.d_law_draw.g T.d_law_draw.F.kp T.d_law_draw.b .nil pass0 (pa_cons (pv 0) (pa_cons pe_int pa_nil))) pe_int (nomark _)))))
      (pss_one (ps_ret (pe_lc (own := [("_law_place", 5)]) (g := gName 5) (by rfl) sc_law_known.nd (pi_range1 (by rfl) T.m_range (pa_cons (pv 2) pa_nil)) (blkOk_by (own := [("_law_place", 5)]) (N := ["_law_well_here", "_law_places_here", "_law_size", "_law_way", "_law_others", "_law_place"]) (sc := defScope s_law_known) (by decide +kernel)) (fun _ _ _ _ _ => (pg_name (i := 5) sc_law_known.nd rfl (Or.inl rfl))) (fun _ _ _ _ _ => (pts_one (PW.pt (pw_or (pt_cmpR (inK K rfl) (pv 5) (pv 1) rfl) (pw_or1 (pt_val (pe_ix (ixLK K rfl) (pv 4) (pv 5) (fun _ _ => rfl)))))))) (fun _ _ _ _ _ => (pv 5))))))))), ?_⟩
  refine fnW (K := K) (mg := mg) (N := ["_law_well_here", "_law_places_here", "_law_size", "_law_way", "_law_others", "_law_place"]) (R := (rL rI)) (prm_cons (prm_cons prm_nil)) (fun J I vs b h => by rw [(lenC (lenC len0)) J I vs b h]; decide) (Γn := fun _ _ => []) (Γl := fun _ _ => []) (fun b => (sb_set (Nat.le_of_ble_eq_true rfl) (se_draw rfl se_int) (fun v1 =>
      (sb_ifq (st_test (se_op ro_eqI (se_var rfl) se_int))
      (sb_ret (se_lc (si_rng1 (sa_cons (se_var rfl) sa_nil)) sg_name (by rfl) (by rfl) (fun x2 => st_yes) (fun x2 => (se_var rfl))))
      (sb_ifq (st_test (se_op ro_eqI (se_var rfl) se_int))
      (sb_ret (se_var rfl))
      (sb_set (Nat.le_of_ble_eq_true rfl) (se_lc (si_rng1 (sa_cons (se_var rfl) sa_nil)) sg_name (by rfl) (by rfl) (fun x3 => st_yes) (fun x3 => (se_op ro_eqI (se_draw rfl se_int) se_int))) (fun v4 =>
      (sb_ret (se_lc (si_rng1 (sa_cons (se_var rfl) sa_nil)) sg_name (by rfl) (by rfl) (fun x5 => (st_or (st_test (se_op ro_inI (se_var rfl) (se_var rfl))) (st_val (se_op ro_ixL (se_var rfl) (se_var rfl))))) (fun x5 => (se_var rfl))))))))))) ?_ h
  intro b P h
  simp only [↓reduceIte, decide_eq_true_eq, D.bind, D.pure, D.need, D.any, D.nox] at h ⊢
  obtain ⟨ps, n, u⟩ := b
  dsimp only at h ⊢
  obtain ⟨⟨⟨hp, hb⟩, hn⟩, h⟩ := h
  have en : ((n.toNat : Nat) : Int) = n := by omega
  refine ⟨⟨by decide, by decide +kernel⟩, fun way hway => ite2 (fun _ => ⟨by omega, by omega, ?_⟩) (fun _ => ite2 (fun _ => h _ ⟨⟨hp, hb⟩, fun _ q => q⟩) (fun _ => ⟨by omega, by omega, ?_⟩))⟩
  · refine compD_fun (fun _ => true) (fun x : Int => x) _ _ _ (fun _ _ _ q => q) (fun _ _ _ _ q => q) ?_
    rw [List.filter_eq_self.mpr (fun _ _ => rfl), List.map_id']
    exact h _ ⟨⟨rngL_lt _, fun x hx => by have := mem_rngL.mp hx; omega⟩, fun x hx => mem_rngL.mpr (by have := hb x hx; omega)⟩
  · refine compD_any (fun _ (_ : Bool) => True) _ _ _ (fun x _ Q q => ⟨⟨by decide, by decide +kernel⟩, fun r hr => q _ trivial⟩) fun bs hbs => ?_
    have lb : bs.length = n.toNat := by rw [← Paired.length hbs, rngL_len]
    refine ⟨by omega, by omega, ?_⟩
    refine compD_fun (fun x => decide (x ∈ ps) || (bs[x.toNat]?).getD false) (fun x : Int => x) _ _ _ (fun x hx Q q => ?_) (fun _ _ _ _ q => q) ?_
    · refine ite2 (fun e => ?_) (fun e => ?_)
      · rw [decide_eq_true e, Bool.true_or] at q
        exact q
      · have hx := mem_rngL.mp hx
        have hlt : x.toNat < bs.length := by omega
        rw [decide_eq_false e, Bool.false_or, List.getElem?_eq_getElem hlt] at q
        refine ⟨bs[x.toNat], ?_, q⟩
        have := atI_nat (List.getElem?_eq_getElem hlt)
        rwa [show ((x.toNat : Nat) : Int) = x by omega] at this
    · rw [List.map_id']
      refine h _ ⟨⟨(rngL_lt _).filter _, fun x hx => by have := mem_rngL.mp (List.mem_filter.mp hx).1; omega⟩, fun x hx => List.mem_filter.mpr ⟨mem_rngL.mpr (by have := hb x hx; omega), by rw [decide_eq_true hx]; rfl⟩⟩
theorem ok_law_plain (T : Txt K mg) : FnOk P w K mg base CX0 1 T.f_law_plain T.fd_law_plain ["_law_found", "_law_due"] (spF0 (rsC (rTu K (rsC rS (rsC (rO rS) (rsC rI (rsC (rT K (rTu K (rsC rI (rsC rS rs0)))) (rsC rI (rsC rI (rsC (rT K (rTu K (rsC rI (rsC rI (rsC rI rs0))))) rs0)))))))) (rsC (rTu K (rsC rS (rsC (rO rS) (rsC rI (rsC (rT K (rTu K (rsC rI (rsC rS rs0)))) (rsC rI (rsC rI (rsC (rT K (rTu K (rsC rI (rsC rI (rsC rI rs0))))) rs0)))))))) rs0)) rB fun b => D.need (b.1 = b.2.1 ∧ b.1.r.2.2.2.1.l.length ≤ 10000) (D.pure true)) := by
  refine T.d_law_plain.F.ok sc_law_plain (fun vs H Q E h => ?_) (fun cdv A outer s H vs Q E hr h => ?_)
  · obtain ⟨I, b, P, s, rp, _⟩ := h
    exact (lenC (lenC len0)) _ _ _ _ rp
  refine ⟨_, (pss_cons (ps_if (PW.pt (pw_or (pt_not (pt_val (pe_callB (isiK K rfl) (by rfl) T.m_isinstance (by decide +kernel) (pa_cons (pv 0) (pa_cons (pe_bltn (v := .ty "tuple") (by rfl) T.m_tuple (by decide +kernel) rfl) pa_nil))))) (pw_or (pt_cmpR (neDK K rfl hr.units) (pv 0) (pv 1) (nomark _)) (pw_or1 (pt_not (pt_val (pe_callB (isiK K rfl) (by rfl) T.m_isinstance (by decide +kernel) (pa_cons (pe_ix (ixTK K rfl) (pv 0) pe_int (fun _ _ => rfl)) (pa_cons (pe_bltn (v := .ty "tuple") (by rfl) T.m_tuple (by decide +kernel) rfl) pa_nil)))))))))
      (pss_one (ps_ret pe_bl))
      pss_nil)
      (pss_cons (ps_set (i := 2) sc_law_plain.nd rfl (.inl rfl) (pe_op op_cat (pe_lst (pa_cons (pe_ix (ixTK K rfl) (pv 0) pe_int (fun _ _ => rfl)) (pa_cons (pe_ix (ixTK K rfl) (pv 0) pe_int (fun _ _ => rfl)) (pa_cons (pe_ix (ixTK K rfl) (pv 0) pe_int (fun _ _ => rfl)) pa_nil)))) (pe_lc (own := [("_law_part", 3)]) (g := gName 3) (tt := tYes) (by rfl) sc_law_plain.nd (pi_tupK K rfl (pe_ix (ixTK K rfl) (pv 0) pe_int (fun _ _ => rfl))) (blkOk_by (own := [("_law_part", 3)]) (N := ["_law_found", "_law_due", "_law_numbers", "_law_part", "_law_one"]) (sc := defScope s_law_plain) (by decide +kernel)) (fun _ _ _ _ _ => (pg_name (i := 3) sc_law_plain.nd rfl (Or.inl rfl))) (fun _ _ _ _ _ => pts_nil) (fun _ _ _ _ _ => (pe_ix (ixTK K rfl) (pv 3) pe_int (fun _ _ => rfl))))))
      (pss_one (ps_ret (pe_callB (allK K rfl rfl) (by rfl) T.m_all (by decide +kernel) (pa_cons (pe_lc (own := [("_law_one", 4)]) (g := gName 4) (tt := tYes) (by rfl) sc_law_plain.nd (pi_listK K rfl (pv 2)) (blkOk_by (own := [("_law_one", 4)]) (N := ["_law_found", "_law_due", "_law_numbers", "_law_part", "_law_one"]) (sc := defScope s_law_plain) (by decide +kernel)) (fun _ _ _ _ _ => (pg_name (i := 4) sc_law_plain.nd rfl (Or.inl rfl))) (fun _ _ _ _ _ => pts_nil) (fun _ _ _ _ _ => (pe_and (pe_callB (isiK K rfl) (by rfl) T.m_isinstance (by decide +kernel) (pa_cons (pv 4) (pa_cons (pe_bltn (v := .ty "int") (by rfl) T.m_int (by decide +kernel) rfl) pa_nil))) (pe_one (pe_not (pe_callB (isiK K rfl) (by rfl) T.m_isinstance (by decide +kernel) (pa_cons (pv 4) (pa_cons (pe_bltn (v := .ty "bool") (by rfl) T.m_bool (by decide +kernel) rfl) pa_nil)))))))) pa_nil)))))), ?_⟩
  refine fn0 (K := K) (mg := mg) (N := ["_law_found", "_law_due", "_law_numbers", "_law_part", "_law_one"]) (R := rB) (prm_cons (prm_cons prm_nil)) (fun J I vs b h => by rw [(lenC (lenC len0)) J I vs b h]; decide) (Γn := fun _ _ => []) (Γl := fun _ _ => []) (fun b => (sb_ifq (st_or (st_not (st_val (se_isi (b := true) tyx_Tu (by decide +kernel) (se_var rfl)))) (st_or (st_test (se_op ro_neD (se_var rfl) (se_var rfl))) (st_not (st_val (se_isi (b := true) tyx_T (by decide +kernel) (se_tu3 (se_var rfl)))))))
      (sb_ret se_bl)
      (sb_set (Nat.le_of_ble_eq_true rfl) (se_op ro_cat (se_lstn (ln_cons (se_tu2 (se_var rfl)) (ln_cons (se_tu4 (se_var rfl)) (ln_cons (se_tu5 (se_var rfl)) ln_nil)))) (se_lc (si_tup (se_tu3 (se_var rfl))) sg_name (by rfl) (by rfl) (fun x1 => st_yes) (fun x1 => (se_tu0 (se_var rfl))))) (fun v2 =>
      (sb_ret (se_cb ro_all (sa_cons (se_lc (si_list (se_var rfl)) sg_name (by rfl) (by rfl) (fun x3 => st_yes) (fun x3 => (se_andp (se_isi (b := true) tyx_I (by decide +kernel) (se_var rfl)) (se_not (se_isi (b := false) tyx_I (by decide +kernel) (se_var rfl)))))) sa_nil))))))) ?_ h
  intro b P h
  simp only [↓reduceIte, decide_eq_true_eq, D.bind, D.pure, D.need, D.any, D.nox] at h ⊢
  obtain ⟨⟨he, hl⟩, h⟩ := h
  refine iteF' (by simp) (iteF' (by simp [he]) (iteF' (by simp) ?_))
  refine compD_fun (fun _ => true) (fun x : Pt => x.r.1) _ _ _ (fun _ _ _ q => q) (fun _ _ _ _ q => q) ?_
  rw [List.filter_eq_self.mpr (fun _ _ => rfl), List.length_map]
  refine ⟨Nat.le_trans (Nat.add_le_add_left hl 3) (by decide), ?_⟩
  refine compD_fun (fun _ => true) (fun _ => true) _ _ _ (fun _ _ _ q => q) (fun _ _ _ _ q => q) ?_
  rw [List.all_map, show ∀ xs : List Int, xs.all (id ∘ fun _ => true) = true from fun xs => List.all_eq_true.mpr fun _ _ => rfl]
  exact h
theorem ok_law_rest (T : Txt K mg) : FnOk P w K mg base CX0 1 T.f_law_rest T.fd_law_rest ["_law_found"] (spF0 (rsC (r_Answer T) rs0) (rTu K (rsC (rT K rS) (rsC (rT K rS) (rsC rI (rsC rB rs0))))) fun b => D.pure ⟨(b.1.turns, b.1.tags, b.1.rule.keep, b.1.rule.own, ())⟩) := by
  refine T.d_law_rest.F.ok sc_law_rest (fun vs H Q E h => ?_) (fun cdv A outer s H vs Q E hr h => ?_)
  · obtain ⟨I, b, P, s, rp, _⟩ := h
    exact (lenC len0) _ _ _ _ rp
  refine ⟨_, (pss_one (ps_ret (pe_tup (pa_cons (pe_callTy (tupleK K rfl) (by rfl) T.m_tuple (by decide +kernel) (pa_cons (pe_fldK K rfl (pv 0) rfl) pa_nil)) (pa_cons (pe_callTy (tupleK K rfl) (by rfl) T.m_tuple (by decide +kernel) (pa_cons (pe_fldK K rfl (pv 0) rfl) pa_nil)) (pa_cons (pe_fldK K rfl (pe_fldK K rfl (pv 0) rfl) rfl) (pa_cons (pe_fldK K rfl (pe_fldK K rfl (pv 0) rfl) rfl) pa_nil))))))), ?_⟩
  refine fn0 (K := K) (mg := mg) (N := ["_law_found"]) (R := (rTu K (rsC (rT K rS) (rsC (rT K rS) (rsC rI (rsC rB rs0)))))) (prm_cons prm_nil) (fun J I vs b h => by rw [(lenC len0) J I vs b h]; decide) (Γn := fun _ _ => []) (Γl := fun _ _ => []) (fun b => (sb_ret (se_tu 4 (sa_cons (se_cb0 ro_tupT0 (sa_cons (se_fld (fld_Answer_turns T) (se_var rfl)) sa_nil)) (sa_cons (se_cb0 ro_tupT0 (sa_cons (se_fld (fld_Answer_tags T) (se_var rfl)) sa_nil)) (sa_cons (se_fld (fld_Rule_keep T) (se_fld (fld_Answer_rule T) (se_var rfl))) (sa_cons (se_fld (fld_Rule_own T) (se_fld (fld_Answer_rule T) (se_var rfl))) sa_nil)))) (lenC (lenC (lenC (lenC len0))))))) ?_ h
  intro b P h
  exact h
end
end My
set_option synthInstance.maxSize 2000
set_option synthInstance.maxHeartbeats 200000
namespace My
open PySem PySem.Spec PyProof.Rows L2 TL
open Lx hiding ints_of paired_app paired_at Wd
open Lw Ls Mo Ak
section
variable {P : Program} {w : World} {K : PySem.W.Frag} {mg : Str → Option Value} {base : Heap}
theorem ok_law_case (T : Txt K mg) : FnOk P w K mg base CX0 3 T.f_law_case T.fd_law_case ["_law_well_here", "_law_long", "_law_gone"] (spW 2 (rsC rI (rsC rB rs0)) (rTu K (rsC (rTu K (rsC (rL (rTu K (rsC (rO rI) (rsC (rO rI) rs0)))) (rsC (rL rS) (rsC (rO rS) rs0)))) (rsC (rO rS) rs0))) fun b => D.need (0 ≤ b.1 ∧ b.1 < 500) (D.any fun z => CaseOk b.2.1 z)) := by
  refine T.d_law_case.F.ok sc_law_case (fun vs H Q E h => ?_) (fun cdv A outer s H vs Q E hr h => ?_)
  · obtain ⟨W, ns, vs', I, b, P, rfl, _, _, _, _, rp, _⟩ := h
    exact congrArg Nat.succ ((lenC (lenC len0)) _ _ _ _ rp)
  refine ⟨_, (pss_cons (ps_setLc (i := 3) (own := [("_law_k", 8)]) (g := gName 8) (tt := tYes) (by rfl) sc_law_case.nd rfl rfl (sw_true rfl rfl rfl (by decide +kernel)) (pi_range1 (by rfl) T.m_range (pa_cons (pe_call (ok_law_draw T) (hr.mono (by decide)) (by rfl) T.d_law_draw.g T.d_law_draw.F.kp T.d_law_draw.b .nil pass0 (pa_cons (pv 0) (pa_cons pe_int pa_nil))) pa_nil)) (blkOk_by (own := [("_law_k", 8)]) (N := ["_law_well_here", "_law_long", "_law_gone", "_law_pieces", "_law_mine", "_law_some", "_law_mark_here", "_law_other", "_law_k"]) (sc := defScope s_law_case) (by decide +kernel)) (fun _ _ _ _ _ => (pg_name (i := 8) sc_law_case.nd rfl (Or.inl rfl))) (fun _ _ _ _ _ => pts_nil) (fun _ _ _ _ _ => (pe_call (ok_law_span T) (hr.mono (by decide)) (by rfl) T.d_law_span.g T.d_law_span.F.kp T.d_law_span.b .nil pass0 (pa_cons (pv 0) (pa_cons (pv 1) pa_nil)))))
      (pss_cons (ps_setLc (i := 4) (own := [("_law_k", 8)]) (g := gName 8) (tt := tYes) (by rfl) sc_law_case.nd rfl rfl (sw_true rfl rfl rfl (by decide +kernel)) (pi_range1 (by rfl) T.m_range (pa_cons (pe_call (ok_law_draw T) (hr.mono (by decide)) (by rfl) T.d_law_draw.g T.d_law_draw.F.kp T.d_law_draw.b .nil pass0 (pa_cons (pv 0) (pa_cons pe_int pa_nil))) pa_nil)) (blkOk_by (own := [("_law_k", 8)]) (N := ["_law_well_here", "_law_long", "_law_gone", "_law_pieces", "_law_mine", "_law_some", "_law_mark_here", "_law_other", "_law_k"]) (sc := defScope s_law_case) (by decide +kernel)) (fun _ _ _ _ _ => (pg_name (i := 8) sc_law_case.nd rfl (Or.inl rfl))) (fun _ _ _ _ _ => pts_nil) (fun _ _ _ _ _ => (pe_call (ok_law_mark T) (hr.mono (by decide)) (by rfl) T.d_law_mark.g T.d_law_mark.F.kp T.d_law_mark.b .nil pass0 (pa_cons (pv 0) pa_nil))))
      (pss_cons (ps_set (i := 5) sc_law_case.nd rfl (.inl rfl) (pe_op op_cat (pv 4) (pe_lst (pa_cons (pe_call (ok_law_mark T) (hr.mono (by decide)) (by rfl) T.d_law_mark.g T.d_law_mark.F.kp T.d_law_mark.b .nil pass0 (pa_cons (pv 0) pa_nil)) (pa_cons (pe_call (ok_law_mark T) (hr.mono (by decide)) (by rfl) T.d_law_mark.g T.d_law_mark.F.kp T.d_law_mark.b .nil pass0 (pa_cons (pv 0) pa_nil)) pa_nil)))))
      (pss_cons (ps_set (i := 6) sc_law_case.nd rfl (.inl rfl) (pe_ifExp (pt_val (pv 2)) pe_non (pe_ix (ixLK K rfl) (pv 5) (pe_call (ok_law_draw T) (hr.mono (by decide)) (by rfl) T.d_law_draw.g T.d_law_draw.F.kp T.d_law_draw.b .nil pass0 (pa_cons (pv 0) (pa_cons (pe_callB (lenK K rfl) (by rfl) T.m_len (by decide +kernel) (pa_cons (pv 5) pa_nil)) pa_nil))) (fun _ _ => rfl))))
      (pss_cons (ps_set (i := 7) sc_law_case.nd rfl (.inl rfl) (pe_ix (ixLK K rfl) (pe_lst (pa_cons pe_non (pa_cons pe_non (pa_cons (pv 6) (pa_cons (pe_call (ok_law_mark T) (hr.mono (by decide)) (by rfl) T.d_law_mark.g T.d_law_mark.F.kp T.d_law_mark.b .nil pass0 (pa_cons (pv 0) pa_nil)) pa_nil))))) (pe_call (ok_law_draw T) (hr.mono (by decide)) (by rfl) T.d_law_draw.g T.d_law_draw.F.kp T.d_law_draw.b .nil pass0 (pa_cons (pv 0) (pa_cons pe_int pa_nil))) (fun _ _ => rfl)))
      (pss_one (ps_ret (pe_tup (pa_cons (pe_tup (pa_cons (pv 3) (pa_cons (pv 4) (pa_cons (pv 7) pa_nil)))) (pa_cons (pv 6) pa_nil)))))))))), ?_⟩
  refine fnW (K := K) (mg := mg) (N := ["_law_well_here", "_law_long", "_law_gone", "_law_pieces", "_law_mine", "_law_some", "_law_mark_here", "_law_other", "_law_k"]) (R := (rTu K (rsC (rTu K (rsC (rL (rTu K (rsC (rO rI) (rsC (rO rI) rs0)))) (rsC (rL rS) (rsC (rO rS) rs0)))) (rsC (rO rS) rs0)))) (prm_cons (prm_cons prm_nil)) (fun J I vs b h => by rw [(lenC (lenC len0)) J I vs b h]; decide) (Γn := fun _ _ => []) (Γl := fun _ _ => []) (fun b => (sb_set (Nat.le_of_ble_eq_true rfl) (se_lc (si_rng1 (sa_cons (se_draw rfl se_int) sa_nil)) sg_name (by rfl) (by rfl) (fun x1 => st_yes) (fun x1 => (se_callW rfl (sa_cons (se_var rfl) sa_nil)))) (fun v2 =>
      (sb_set (Nat.le_of_ble_eq_true rfl) (se_lc (si_rng1 (sa_cons (se_draw rfl se_int) sa_nil)) sg_name (by rfl) (by rfl) (fun x3 => st_yes) (fun x3 => (se_callW rfl sa_nil))) (fun v4 =>
      (sb_set (Nat.le_of_ble_eq_true rfl) (se_op ro_cat (se_var rfl) (se_lstn (ln_cons (se_callW rfl sa_nil) (ln_cons (se_callW rfl sa_nil) ln_nil)))) (fun v5 =>
      (sb_set (Nat.le_of_ble_eq_true rfl) (se_if (st_val (se_var rfl)) se_noneO (SE.map co_some_str (se_op ro_ixL (se_var rfl) (se_draw rfl (se_cb ro_lenL (sa_cons (se_var rfl) sa_nil)))))) (fun v6 =>
      (sb_set (Nat.le_of_ble_eq_true rfl) (se_op ro_ixL (se_lstn (ln_cons se_noneO (ln_cons se_noneO (ln_cons (se_var rfl) (ln_cons (SE.map co_some_str (se_callW rfl sa_nil)) ln_nil))))) (se_draw rfl se_int)) (fun v7 =>
      (sb_ret (se_tu 2 (sa_cons (se_tu 3 (sa_cons (se_var rfl) (sa_cons (se_var rfl) (sa_cons (se_var rfl) sa_nil))) (lenC (lenC (lenC len0)))) (sa_cons (se_var rfl) sa_nil)) (lenC (lenC len0))))))))))))))) ?_ h
  intro b P h
  simp only [↓reduceIte, decide_eq_true_eq, D.bind, D.pure, D.need, D.any, D.nox] at h ⊢
  obtain ⟨hb, h⟩ := h
  obtain ⟨n, gone, u⟩ := b
  dsimp only at hb h ⊢
  have lw : (100000 : Int) < limW := by decide +kernel
  refine ⟨⟨by decide, by omega⟩, fun np hnp => ⟨by omega, by omega, ?_⟩⟩
  refine compD_any (fun _ (z : Sn) => spanB z = true) _ _ _ (fun x _ Q q => ⟨⟨hb.1, by omega⟩, fun z hz => q z hz⟩) fun ps hps => ?_
  refine ⟨⟨by decide, by omega⟩, fun nm hnm => ⟨by omega, by omega, ?_⟩⟩
  refine compD_any (fun _ (z : Str) => mkB z = true) _ _ _ (fun x _ Q q => fun z hz => q z hz) fun mine hmine => ?_
  have lmine : mine.length ≤ 4 := by
    rw [← Paired.length hmine, rngL_len]
    omega
  refine fun m1 hm1 m2 hm2 => ⟨Nat.le_trans (Nat.add_le_add_right lmine 2) (by decide), ?_⟩
  have pall : ∀ s ∈ ps, spanB s = true := fun z hz => by
    obtain ⟨i, hi, rfl⟩ := List.mem_iff_getElem.mp hz
    obtain ⟨_, _, q⟩ := Lx.paired_at hps (List.getElem?_eq_getElem hi)
    exact q
  have mok : ∀ z ∈ mine, mkB z = true := fun z hz => by
    obtain ⟨i, hi, rfl⟩ := List.mem_iff_getElem.mp hz
    obtain ⟨_, _, q⟩ := Lx.paired_at hmine (List.getElem?_eq_getElem hi)
    exact q
  have plen : ps.length ≤ 10 := by
    rw [← Paired.length hps, rngL_len]
    omega
  have lsome : (mine ++ [m1, m2]).length = mine.length + 2 := by rw [List.length_append]; rfl
  refine ite2 (fun e => fun m3 hm3 => ⟨⟨by decide, by omega⟩, fun d hd => at_draw ⟨hd.1, hd.2⟩ fun oth hoth => h _ ⟨pall, plen, mok, ?_, fun m e => (nomatch e), ⟨fun _ => e, fun _ => rfl⟩⟩⟩) (fun e => ⟨⟨by omega, by omega⟩, fun d hd => at_draw ⟨hd.1, hd.2⟩ fun mk hmk => fun m3 hm3 => ⟨⟨by decide, by omega⟩, fun d2 hd2 => at_draw ⟨hd2.1, hd2.2⟩ fun oth hoth => h _ ⟨pall, plen, mok, ?_, ?_, ⟨fun q => (nomatch q), fun q => absurd q e⟩⟩⟩⟩)
  · simp only [List.mem_cons, List.not_mem_nil, or_false] at hoth
    rcases hoth with rfl | rfl | rfl | rfl
    · exact fun m e => (nomatch e)
    · exact fun m e => (nomatch e)
    · exact fun m e => (nomatch e)
    · intro m e
      cases e
      exact hm3
  all_goals
    have hk : mkB mk = true := by
      rcases List.mem_append.mp hmk with q | q
      · exact mok _ q
      · simp only [List.mem_cons, List.not_mem_nil, or_false] at q
        rcases q with rfl | rfl
        · exact hm1
        · exact hm2
  · simp only [List.mem_cons, List.not_mem_nil, or_false] at hoth
    rcases hoth with rfl | rfl | rfl | rfl
    · exact fun m e => (nomatch e)
    · exact fun m e => (nomatch e)
    · intro m e
      cases e
      exact hk
    · intro m e
      cases e
      exact hm3
  · intro m e
    cases e
    exact hk
theorem ok_law1 (T : Txt K mg) : FnOk P w K mg base CX0 8 T.f_law T.fd_law ["_law_script"] (spF0 (rsC (rScr K rI) rs0) rB fun b => D.need (b.1.l.length ≤ 63) (D.pure true)) := by
  refine T.d_law.F.ok sc_law (fun vs H Q E h => ?_) (fun cdv A outer s H vs Q E hr h => ?_)
  · obtain ⟨I, b, P, s, rp, _⟩ := h
    exact (lenC len0) _ _ _ _ rp
  refine ⟨_, (pss_cons (ps_for PassesOwn.never rfl (pi_listK K rfl (pe_slice (slLK K rfl) (pe_op (catLK K rfl) (pv 0) (pe_lst (pa_cons pe_int pa_nil))) po_none (po_some pe_int))) (pg_name (i := 1) sc_law.nd rfl (.inl rfl))
      (pss_cons (ps_set (i := 2) sc_law.nd rfl (.inl rfl) (pe_call (ok_law_well T) (hr.mono (by decide)) (by rfl) T.d_law_well.g T.d_law_well.F.kp T.d_law_well.b .nil pass0 (pa_cons (pv 1) pa_nil)))
      (pss_cons (ps_set (i := 3) sc_law.nd rfl (.inl rfl) (pe_cmpR op_eq (pe_call (ok_law_draw T) (hr.mono (by decide)) (by rfl) T.d_law_draw.g T.d_law_draw.F.kp T.d_law_draw.b .nil pass0 (pa_cons (pv 2) (pa_cons pe_int pa_nil))) pe_int (nomark _)))
      (pss_cons (ps_set (i := 4) sc_law.nd rfl (.inl rfl) (pe_ifExp (pt_val (pv 3)) pe_str (pe_call (ok_law_text T) (hr.mono (by decide)) (by rfl) T.d_law_text.g T.d_law_text.F.kp T.d_law_text.b .nil pass0 (pa_cons (pv 2) pa_nil))))
      (pss_cons (ps_set (i := 5) sc_law.nd rfl (.inl rfl) (pe_callB call_len_str (by rfl) T.m_len (by decide +kernel) (pa_cons (pv 4) pa_nil)))
      (pss_cons (ps_asg (pe_call (ok_law_case T) (hr.mono (by decide)) (by rfl) T.d_law_case.g T.d_law_case.F.kp T.d_law_case.b .nil pass0 (pa_cons (pv 2) (pa_cons (pv 5) (pa_cons (pv 3) pa_nil)))) (pg_tup rfl (pgs_cons (pg_name (i := 6) sc_law.nd rfl (.inl rfl)) (pgs_cons (pg_name (i := 7) sc_law.nd rfl (.inl rfl)) pgs_nil))))
      (pss_cons (ps_set (i := 8) sc_law.nd rfl (.inl rfl) (pe_call (ok_law_places T) (hr.mono (by decide)) (by rfl) T.d_law_places.g T.d_law_places.F.kp T.d_law_places.b .nil pass0 (pa_cons (pv 6) (pa_cons (pv 7) (pa_cons (pv 5) pa_nil)))))
      (pss_cons (ps_set (i := 9) sc_law.nd rfl (.inl rfl) (pe_call (ok_law_word T) (hr.mono (by decide)) (by rfl) T.d_law_word.g T.d_law_word.F.kp T.d_law_word.b .nil pass0 (pa_cons (pv 6) (pa_cons (pv 7) (pa_cons (pv 8) pa_nil)))))
      (pss_cons (ps_set (i := 10) sc_law.nd rfl (.inl rfl) (pe_ifExp (pt_cmpR (inK K rfl) (pv 9) (pe_lst (pa_cons pe_str (pa_cons pe_str pa_nil))) rfl) (pe_call (ok_law_parts T) (hr.mono (by decide)) (by rfl) T.d_law_parts.g T.d_law_parts.F.kp T.d_law_parts.b .nil pass0 (pa_cons (pv 4) (pa_cons (pv 8) pa_nil))) (pe_lst pa_nil)))
      (pss_cons (ps_set (i := 11) sc_law.nd rfl (.inl rfl) (pe_call (ok_law_parts T) (hr.mono (by decide)) (by rfl) T.d_law_parts.g T.d_law_parts.F.kp T.d_law_parts.b .nil pass0 (pa_cons (pv 4) (pa_cons (pe_call (ok_law_known T) (hr.mono (by decide)) (by rfl) T.d_law_known.g T.d_law_known.F.kp T.d_law_known.b .nil pass0 (pa_cons (pv 2) (pa_cons (pv 8) (pa_cons (pv 5) pa_nil)))) pa_nil))))
      (pss_cons (ps_if (PW.pt (pw_and (pt_cmpR (inK K rfl) (pv 9) (pe_lst (pa_cons pe_str (pa_cons pe_str pa_nil))) rfl) (pw_and1 (pt_cmpR op_eq (pe_call (ok_law_draw T) (hr.mono (by decide)) (by rfl) T.d_law_draw.g T.d_law_draw.F.kp T.d_law_draw.b .nil pass0 (pa_cons (pv 2) (pa_cons pe_int pa_nil))) pe_int (nomark _)))))
      (pss_one (ps_set (i := 11) sc_law.nd rfl (.inl rfl) (pe_lst pa_nil)))
      pss_nil)
      (pss_cons (ps_set (i := 12) sc_law.nd rfl (.inl rfl) (pe_ix (ixLK K rfl) (pe_lst (pa_cons (pe_callTy (tupleK K rfl) (by rfl) T.m_tuple (by decide +kernel) (pa_cons (pv 11) pa_nil)) (pa_cons (pe_callTy (listK K rfl) (by rfl) T.m_list (by decide +kernel) (pa_cons (pv 11) pa_nil)) pa_nil))) (pe_call (ok_law_draw T) (hr.mono (by decide)) (by rfl) T.d_law_draw.g T.d_law_draw.F.kp T.d_law_draw.b .nil pass0 (pa_cons (pv 2) (pa_cons pe_int pa_nil))) (fun _ _ => rfl)))
      (pss_cons (ps_set (i := 13) sc_law.nd rfl (.inl rfl) (pe_lst (pa_cons (pe_call (ok_law_draw T) (hr.mono (by decide)) (by rfl) T.d_law_draw.g T.d_law_draw.F.kp T.d_law_draw.b .nil pass0 (pa_cons (pv 2) (pa_cons (pe_op op_pow pe_int pe_int) pa_nil))) (pa_cons (pe_call (ok_law_draw T) (hr.mono (by decide)) (by rfl) T.d_law_draw.g T.d_law_draw.F.kp T.d_law_draw.b .nil pass0 (pa_cons (pv 2) (pa_cons (pe_op op_pow pe_int pe_int) pa_nil))) pa_nil))))
      (pss_cons (ps_set (i := 14) sc_law.nd rfl (.inl rfl) (pe_tup (pa_cons (pe_tup (pa_cons (pe_call (ok_law_draw T) (hr.mono (by decide)) (by rfl) T.d_law_draw.g T.d_law_draw.F.kp T.d_law_draw.b .nil pass0 (pa_cons (pv 2) (pa_cons pe_int pa_nil))) (pa_cons pe_int (pa_cons (pe_ix (ixLK K rfl) (pv 13) pe_int (fun _ _ => rfl)) pa_nil)))) pa_nil)))
      (pss_cons (ps_set (i := 15) sc_law.nd rfl (.inl rfl) (pe_makeK0 T.mk_Rule (ok_Rule_init T) (hr.mono (by decide)) (by rfl) T.g_Rule T.kb_2.choose_spec pass0 (pk_cons (pe_ix (ixLK K rfl) (pv 13) pe_int (fun _ _ => rfl)) (pk_cons pe_bl pk_nil))))
      (pss_cons (ps_set (i := 16) sc_law.nd rfl (.inl rfl) (pe_makeK T.mk_Ask (ok_Ask_init T) (hr.mono (by decide)) (by rfl) T.g_Ask T.kb_3.choose_spec (passes_call takes0 (fun _ _ _ _ h => h)) (pa_cons pe_str pa_nil) (pk_cons (pe_ix (ixTK K rfl) (pv 6) pe_int (fun _ _ => rfl)) (pk_cons (pe_ix (ixTK K rfl) (pv 6) pe_int (fun _ _ => rfl)) (pk_cons (pe_ix (ixTK K rfl) (pv 6) pe_int (fun _ _ => rfl)) pk_nil)))))
      (pss_cons (ps_set (i := 17) sc_law.nd rfl (.inl rfl) (pe_meth0 (pv 16) T.cl_Ask T.me_Ask_told (ok_Ask_told T) (hr.mono (by decide)) T.d_Ask_told.b .nil pass0))
      (pss_cons (ps_set (i := 18) sc_law.nd rfl (.inl rfl) (pe_callN (ok_answered T) (hr.mono (by decide)) (by rfl) T.d_answered.g T.d_answered.F.kp T.kb_4.choose_spec pass0 (pa_cons (pv 16) (pa_cons (pv 7) (pa_cons (pv 5) (pa_cons (pv 12) pa_nil)))) (pk_cons (pv 14) (pk_cons (pe_tup (pa_cons pe_str pa_nil)) (pk_cons (pe_tup (pa_cons pe_str (pa_cons pe_str pa_nil))) (pk_cons (pv 15) (pk_cons (pe_ix (ixLK K rfl) (pv 13) pe_int (fun _ _ => rfl)) (pk_cons (pe_ix (ixLK K rfl) (pv 13) pe_int (fun _ _ => rfl)) pk_nil))))))))
      (pss_cons (ps_if (PW.pt (pw_or (pt_not (pt_val (pe_callB (isiK K rfl) (by rfl) T.m_isinstance (by decide +kernel) (pa_cons (pv 18) (pa_cons (pe_glob (v := .ref T.C_Answer) (by rfl) T.g_Answer rfl) pa_nil))))) (pw_or (pt_cmpR (neDK K rfl hr.units) (pe_callTy (listK K rfl) (by rfl) T.m_list (by decide +kernel) (pa_cons (pv 12) pa_nil)) (pv 11) (nomark _)) (pw_or1 (pt_cmpR (neDK K rfl hr.units) (pe_meth0 (pv 16) T.cl_Ask T.me_Ask_told (ok_Ask_told T) (hr.mono (by decide)) T.d_Ask_told.b .nil pass0) (pv 17) (nomark _))))))
      (pss_one (ps_ret pe_bl))
      pss_nil)
      (pss_cons (ps_if (pt_not (pt_val (pe_call (ok_law_plain T) (hr.mono (by decide)) (by rfl) T.d_law_plain.g T.d_law_plain.F.kp T.d_law_plain.b .nil pass0 (pa_cons (pe_meth0 (pv 18) T.cl_Answer T.me_Answer_told (ok_Answer_told T) (hr.mono (by decide)) T.d_Answer_told.b .nil pass0) (pa_cons (pe_tup (pa_cons (pv 9) (pa_cons (pv 7) (pa_cons (pv 5) (pa_cons (pe_callTy (tupleK K rfl) (by rfl) T.m_tuple (by decide +kernel) (pa_cons (pv 10) pa_nil)) (pa_cons (pe_ix (ixLK K rfl) (pv 13) pe_int (fun _ _ => rfl)) (pa_cons (pe_ix (ixLK K rfl) (pv 13) pe_int (fun _ _ => rfl)) (pa_cons (pv 14) pa_nil)))))))) pa_nil)))))
      (pss_one (ps_ret pe_bl))
      pss_nil)
      (pss_cons (ps_if (pt_cmpR (neDK K rfl hr.units) (pe_call (ok_law_rest T) (hr.mono (by decide)) (by rfl) T.d_law_rest.g T.d_law_rest.F.kp T.d_law_rest.b .nil pass0 (pa_cons (pv 18) pa_nil)) (pe_tup (pa_cons (pe_tup (pa_cons pe_str (pa_cons pe_str pa_nil))) (pa_cons (pe_tup (pa_cons pe_str pa_nil)) (pa_cons (pe_ix (ixLK K rfl) (pv 13) pe_int (fun _ _ => rfl)) (pa_cons pe_bl pa_nil))))) (nomark _))
      (pss_one (ps_ret pe_bl))
      pss_nil)
      (pss_cons (ps_set (i := 19) sc_law.nd rfl (.inl rfl) (pe_call (ok_answered T) (hr.mono (by decide)) (by rfl) T.d_answered.g T.d_answered.F.kp T.kb_5.choose_spec.2 T.kb_5.choose_spec.1 pass0 (pa_cons (pv 16) (pa_cons (pv 7) (pa_cons (pv 5) (pa_cons (pv 12) pa_nil))))))
      (pss_cons (ps_if (pt_not (pt_val (pe_call (ok_law_plain T) (hr.mono (by decide)) (by rfl) T.d_law_plain.g T.d_law_plain.F.kp T.d_law_plain.b .nil pass0 (pa_cons (pe_meth0 (pv 19) T.cl_Answer T.me_Answer_told (ok_Answer_told T) (hr.mono (by decide)) T.d_Answer_told.b .nil pass0) (pa_cons (pe_tup (pa_cons (pv 9) (pa_cons (pv 7) (pa_cons (pv 5) (pa_cons (pe_callTy (tupleK K rfl) (by rfl) T.m_tuple (by decide +kernel) (pa_cons (pv 10) pa_nil)) (pa_cons pe_int (pa_cons pe_int (pa_cons (pe_tup pa_nil) pa_nil)))))))) pa_nil)))))
      (pss_one (ps_ret pe_bl))
      pss_nil)
      (pss_one (ps_if (pt_cmpR (neDK K rfl hr.units) (pe_call (ok_law_rest T) (hr.mono (by decide)) (by rfl) T.d_law_rest.g T.d_law_rest.F.kp T.d_law_rest.b .nil pass0 (pa_cons (pv 19) pa_nil)) (pe_tup (pa_cons (pe_tup pa_nil) (pa_cons (pe_tup pa_nil) (pa_cons pe_int (pa_cons pe_bl pa_nil))))) (nomark _))
      (pss_one (ps_ret pe_bl))
      pss_nil)))))))))))))))))))))))))
      (pss_one (ps_ret pe_bl))), ?_⟩
  refine fn0 (K := K) (mg := mg) (N := ["_law_script", "_law_cell", "_law_well_here", "_law_gone", "_law_signs", "_law_long", "_law_case_here", "_law_mark_here", "_law_places_here", "_law_word_here", "_law_due", "_law_known_here", "_law_rows", "_law_numbers", "_law_links", "_law_ruled", "_law_made", "_law_told", "_law_found", "_law_bare"]) (R := rB) (prm_cons prm_nil) (fun J I vs b h => by rw [(lenC len0) J I vs b h]; decide) (Γn := fun _ _ => []) (Γl := fun _ _ => []) (fun b => (sb_loop (s0 := ()) (fun s : Unit => [⟨.x, 2, ()⟩, ⟨.x, 3, ()⟩, ⟨.x, 4, ()⟩, ⟨.x, 5, ()⟩, ⟨.x, 6, ()⟩, ⟨.x, 7, ()⟩, ⟨.x, 8, ()⟩, ⟨.x, 9, ()⟩, ⟨.x, 10, ()⟩, ⟨.x, 11, ()⟩, ⟨.x, 12, ()⟩, ⟨.x, 13, ()⟩, ⟨.x, 14, ()⟩, ⟨.x, 15, ()⟩, ⟨.x, 16, ()⟩, ⟨.x, 17, ()⟩, ⟨.x, 18, ()⟩, ⟨.x, 19, ()⟩, ⟨.x, 1, ()⟩]) (si_list (se_sl ro_slL (se_op ro_catScr (se_var rfl) (se_lstn (ln_cons se_int ln_nil))) sp_none (sp_some se_int))) sg_name rfl ⟨.inl rfl, .inl rfl, .inl rfl, .inl rfl, .inl rfl, .inl rfl, .inl rfl, .inl rfl, .inl rfl, .inl rfl, .inl rfl, .inl rfl, .inl rfl, .inl rfl, .inl rfl, .inl rfl, .inl rfl, .inl rfl, .inl rfl, trivial⟩ (fun x2 s1 =>
      (sb_well (Nat.le_of_ble_eq_true rfl) (se_var rfl)
      (sb_set (Nat.le_of_ble_eq_true rfl) (se_op ro_eqI (se_draw rfl se_int) se_int) (fun v3 =>
      (sb_set (Nat.le_of_ble_eq_true rfl) (SE.cut (se_if (st_val (se_var rfl)) se_str (se_callW rfl sa_nil))) (fun v4 =>
      (sb_set (Nat.le_of_ble_eq_true rfl) (se_cb ro_lenS (sa_cons (se_var rfl) sa_nil)) (fun v5 =>
      (sb_asg (sg_tup (sgs_cons (sgs_cons sgs_nil)) (lenC (lenC len0))) rfl (se_callW rfl (sa_cons (se_var rfl) (sa_cons (se_var rfl) sa_nil))) (fun v6 =>
      (sb_set (Nat.le_of_ble_eq_true rfl) (se_call0 (sa_cons (se_var rfl) (sa_cons (se_var rfl) (sa_cons (se_var rfl) sa_nil)))) (fun v7 =>
      (sb_set (Nat.le_of_ble_eq_true rfl) (se_call0 (sa_cons (se_var rfl) (sa_cons (se_var rfl) (sa_cons (se_var rfl) sa_nil)))) (fun v8 =>
      (sb_set (Nat.le_of_ble_eq_true rfl) (SE.cut (se_if (st_test (se_op ro_inSL (se_var rfl) (se_lstn (ln_cons se_str (ln_cons se_str ln_nil))))) (se_call0 (sa_cons (se_var rfl) (sa_cons (se_var rfl) sa_nil))) (se_lstn (ln_nil (R := (rTu K (rsC rI (rsC rS rs0)))))))) (fun v9 =>
      (sb_set (Nat.le_of_ble_eq_true rfl) (se_call0 (sa_cons (se_var rfl) (sa_cons (se_callW rfl (sa_cons (se_var rfl) (sa_cons (se_var rfl) sa_nil))) sa_nil))) (fun v10 =>
      (sb_joinC (fun s : (List (Tu (Int × Str × Unit))) => [⟨.p (rL (rTu K (rsC rI (rsC rS rs0)))), 11, s⟩]) (st_and (st_test (se_op ro_inSL (se_var rfl) (se_lstn (ln_cons se_str (ln_cons se_str ln_nil))))) (st_test (se_op ro_eqI (se_draw rfl se_int) se_int)))
      (sb_end (sb_set (Nat.le_of_ble_eq_true rfl) (se_lstn (ln_nil (R := (rTu K (rsC rI (rsC rS rs0)))))) (fun v11 =>
      (sb_nextK (ρ := fun s : (List (Tu (Int × Str × Unit))) => [⟨.p (rL (rTu K (rsC rI (rsC rS rs0)))), 11, s⟩]) (s := v11) 1 rfl rfl ⟨.inr rfl, trivial⟩))))
      (sb_nextK (ρ := fun s : (List (Tu (Int × Str × Unit))) => [⟨.p (rL (rTu K (rsC rI (rsC rS rs0)))), 11, s⟩]) (s := v10) 0 rfl rfl ⟨.inr rfl, trivial⟩)
      (fun s12 => (sb_set (Nat.le_of_ble_eq_true rfl) (SE.cut (se_op ro_ixL (se_lstn (ln_cons (SE.map co_tq (se_cb ro_tupL (sa_cons (se_var rfl) sa_nil))) (ln_cons (SE.map co_lq (se_cb ro_listL (sa_cons (se_var rfl) sa_nil))) ln_nil))) (se_draw rfl se_int))) (fun v13 =>
      (sb_set (Nat.le_of_ble_eq_true rfl) (se_lstn (ln_cons (se_draw rfl (se_op ro_pow se_int se_int)) (ln_cons (se_draw rfl (se_op ro_pow se_int se_int)) ln_nil))) (fun v14 =>
      (sb_set (Nat.le_of_ble_eq_true rfl) (SE.map (co_tuT (l := by exact Nat.le_of_ble_eq_true rfl)) (se_tu 1 (sa_cons (se_tu 3 (sa_cons (se_draw rfl se_int) (sa_cons se_int (sa_cons (se_op ro_ixL (se_var rfl) se_int) sa_nil))) (lenC (lenC (lenC len0)))) sa_nil) (lenC len0))) (fun v15 =>
      (sb_set (Nat.le_of_ble_eq_true rfl) (se_mkK (f := fun (a : Unit) (b : Int × Bool × Unit) => (b.1, (0 : Int), (0 : Int), false, b.2.1, false, false, false, ())) len0 (lenC (lenC len0)) (fun _ _ _ => rfl) (by intro _ _ _ a b h1 h2; obtain rfl := h1; obtain ⟨_, _, rfl, p_keep, ⟨_, _, rfl, p_own, rfl⟩⟩ := h2; exact ⟨_, _, rfl, p_keep, ⟨_, _, rfl, rfl, ⟨_, _, rfl, rfl, ⟨_, _, rfl, rfl, ⟨_, _, rfl, p_own, ⟨_, _, rfl, rfl, ⟨_, _, rfl, rfl, ⟨_, _, rfl, rfl, rfl⟩⟩⟩⟩⟩⟩⟩⟩) sa_nil (sa_cons (se_op ro_ixL (se_var rfl) se_int) (sa_cons se_bl sa_nil))) (fun v16 =>
      (sb_set (Nat.le_of_ble_eq_true rfl) (se_mkKX rfl (f := fun (a : Str × Unit) (b : (Option Str) × (Sq (Tu ((Option Int) × (Option Int) × Unit))) × (Sq Str) × Unit) => (a.1, none, b.2.1, b.2.2.1, b.1, (Str.ofString ""), ())) (lenC len0) (lenC (lenC (lenC len0))) (fun _ _ _ => rfl) (by intro _ _ _ a b h1 h2; obtain ⟨_, _, rfl, p_path, rfl⟩ := h1; obtain ⟨_, _, rfl, p_when, ⟨_, _, rfl, p_spans, ⟨_, _, rfl, p_unless, rfl⟩⟩⟩ := h2; exact ⟨_, _, rfl, p_path, ⟨_, _, rfl, rfl, ⟨_, _, rfl, p_spans, ⟨_, _, rfl, p_unless, ⟨_, _, rfl, p_when, ⟨_, _, rfl, ⟨rfl, show My.Asc (Str.ofString "") by decide, show (Str.ofString "").length ≤ sizeLine by decide⟩, rfl⟩⟩⟩⟩⟩⟩) (sa_cons se_str sa_nil) (sa_cons (se_tu2 (se_var rfl)) (sa_cons (SE.map co_lq (se_tu0 (se_var rfl))) (sa_cons (SE.map co_lq (se_tu1 (se_var rfl))) sa_nil)))) (fun v17 =>
      (sb_set (Nat.le_of_ble_eq_true rfl) (se_methF (ndo_Ask_told T) (se_var rfl) sa_nil) (fun v18 =>
      (sb_set (Nat.le_of_ble_eq_true rfl) (se_callN (f := fun (a : AskR × (Option Str) × Int × (Sq (Tu (Int × Str × Unit))) × Unit) (b : (Sq (Tu (Int × Int × Int × Unit))) × (Sq Str) × (Sq Str) × (Option RuleR) × Int × Int × Unit) => (a.1, a.2.1, a.2.2.1, a.2.2.2.1, b.2.2.2.2.2.1, b.2.2.2.2.1, b.2.2.2.1, b.2.2.1, b.2.1, b.1, ())) (lenC (lenC (lenC (lenC len0)))) (lenC (lenC (lenC (lenC (lenC (lenC len0)))))) (by intro _ _ _ a b h1 h2; obtain ⟨_, _, rfl, p_ask, ⟨_, _, rfl, p_mark, ⟨_, _, rfl, p_size, ⟨_, _, rfl, p_parts, rfl⟩⟩⟩⟩ := h1; obtain ⟨_, _, rfl, p_ground, ⟨_, _, rfl, p_tags, ⟨_, _, rfl, p_turns, ⟨_, _, rfl, p_rule, ⟨_, _, rfl, p_count, ⟨_, _, rfl, p_age, rfl⟩⟩⟩⟩⟩⟩ := h2; exact ⟨_, _, rfl, p_ask, ⟨_, _, rfl, p_mark, ⟨_, _, rfl, p_size, ⟨_, _, rfl, p_parts, ⟨_, _, rfl, p_age, ⟨_, _, rfl, p_count, ⟨_, _, rfl, p_rule, ⟨_, _, rfl, p_turns, ⟨_, _, rfl, p_tags, ⟨_, _, rfl, p_ground, rfl⟩⟩⟩⟩⟩⟩⟩⟩⟩⟩) (sa_cons (se_var rfl) (sa_cons (se_var rfl) (sa_cons (se_var rfl) (sa_cons (se_var rfl) sa_nil)))) (sa_cons (SE.map co_tq (se_var rfl)) (sa_cons (SE.map co_tq (SE.map (co_tuT (l := by exact Nat.le_of_ble_eq_true rfl)) (se_tu 1 (sa_cons se_str sa_nil) (lenC len0)))) (sa_cons (SE.map co_tq (SE.map (co_tuT (l := by exact Nat.le_of_ble_eq_true rfl)) (se_tu 2 (sa_cons se_str (sa_cons se_str sa_nil)) (lenC (lenC len0))))) (sa_cons (SE.map co_some_obj (se_var rfl)) (sa_cons (se_op ro_ixL (se_var rfl) se_int) (sa_cons (se_op ro_ixL (se_var rfl) se_int) sa_nil))))))) (fun v19 =>
      (sb_ifq (st_or (st_not (st_val (se_isO (isi_Answer_Answer T) (se_var rfl)))) (st_or (st_test (se_op ro_neD (SN.se (sn_cb rn_listQ (sa_cons (se_var rfl) sa_nil))) (se_var rfl))) (st_test (se_op ro_neD (se_methF (ndo_Ask_told T) (se_var rfl) sa_nil) (se_var rfl)))))
      (sb_ret se_bl)
      (sb_ifq (st_not (st_val (se_call0 (sa_cons (se_methF (ndo_Answer_told T) (se_var rfl) sa_nil) (sa_cons (se_tu 7 (sa_cons (se_var rfl) (sa_cons (se_var rfl) (sa_cons (se_var rfl) (sa_cons (se_cb ro_tupL (sa_cons (se_var rfl) sa_nil)) (sa_cons (se_op ro_ixL (se_var rfl) se_int) (sa_cons (se_op ro_ixL (se_var rfl) se_int) (sa_cons (se_var rfl) sa_nil))))))) (lenC (lenC (lenC (lenC (lenC (lenC (lenC len0)))))))) sa_nil)))))
      (sb_ret se_bl)
      (sb_ifq (st_test (se_op ro_neD (se_call0 (sa_cons (se_var rfl) sa_nil)) (se_tu 4 (sa_cons (SE.map (co_tuT (l := by exact Nat.le_of_ble_eq_true rfl)) (se_tu 2 (sa_cons se_str (sa_cons se_str sa_nil)) (lenC (lenC len0)))) (sa_cons (SE.map (co_tuT (l := by exact Nat.le_of_ble_eq_true rfl)) (se_tu 1 (sa_cons se_str sa_nil) (lenC len0))) (sa_cons (se_op ro_ixL (se_var rfl) se_int) (sa_cons se_bl sa_nil)))) (lenC (lenC (lenC (lenC len0)))))))
      (sb_ret se_bl)
      (sb_set (Nat.le_of_ble_eq_true rfl) (se_callD (f := fun (a : AskR × (Option Str) × Int × (Sq (Tu (Int × Str × Unit))) × Unit) => (a.1, a.2.1, a.2.2.1, a.2.2.2.1, (0 : Int), (0 : Int), none, ⟨[]⟩, ⟨[]⟩, ⟨[]⟩, ())) (by intro _ _ a h1; obtain ⟨_, _, rfl, p_ask, ⟨_, _, rfl, p_mark, ⟨_, _, rfl, p_size, ⟨_, _, rfl, p_parts, rfl⟩⟩⟩⟩ := h1; exact ⟨_, _, rfl, p_ask, ⟨_, _, rfl, p_mark, ⟨_, _, rfl, p_size, ⟨_, _, rfl, p_parts, ⟨_, _, rfl, rfl, ⟨_, _, rfl, rfl, ⟨_, _, rfl, rfl, ⟨_, _, rfl, ⟨_, [], rfl, .inr (T.eq_answered_turns _), Nat.zero_le _, .nil⟩, ⟨_, _, rfl, ⟨_, [], rfl, .inr (T.eq_answered_tags _), Nat.zero_le _, .nil⟩, ⟨_, _, rfl, ⟨_, [], rfl, .inr (T.eq_answered_ground _), Nat.zero_le _, .nil⟩, rfl⟩⟩⟩⟩⟩⟩⟩⟩⟩⟩) (sa_cons (se_var rfl) (sa_cons (se_var rfl) (sa_cons (se_var rfl) (sa_cons (se_var rfl) sa_nil))))) (fun v20 =>
      (sb_ifq (st_not (st_val (se_call0 (sa_cons (se_methF (ndo_Answer_told T) (se_var rfl) sa_nil) (sa_cons (se_tu 7 (sa_cons (se_var rfl) (sa_cons (se_var rfl) (sa_cons (se_var rfl) (sa_cons (se_cb ro_tupL (sa_cons (se_var rfl) sa_nil)) (sa_cons se_int (sa_cons se_int (sa_cons (SE.map (co_tv0 (R := (rTu K (rsC rI (rsC rI (rsC rI rs0)))))) (se_tu 0 sa_nil len0)) sa_nil))))))) (lenC (lenC (lenC (lenC (lenC (lenC (lenC len0)))))))) sa_nil)))))
      (sb_ret se_bl)
      (sb_if (st_test (se_op ro_neD (se_call0 (sa_cons (se_var rfl) sa_nil)) (se_tu 4 (sa_cons (SE.map (co_tv0 (R := rS)) (se_tu 0 sa_nil len0)) (sa_cons (SE.map (co_tv0 (R := rS)) (se_tu 0 sa_nil len0)) (sa_cons se_int (sa_cons se_bl sa_nil)))) (lenC (lenC (lenC (lenC len0)))))))
      (sb_ret se_bl)
      (sb_nextK (ρ := fun s : Unit => [⟨.x, 2, ()⟩, ⟨.x, 3, ()⟩, ⟨.x, 4, ()⟩, ⟨.x, 5, ()⟩, ⟨.x, 6, ()⟩, ⟨.x, 7, ()⟩, ⟨.x, 8, ()⟩, ⟨.x, 9, ()⟩, ⟨.x, 10, ()⟩, ⟨.x, 11, ()⟩, ⟨.x, 12, ()⟩, ⟨.x, 13, ()⟩, ⟨.x, 14, ()⟩, ⟨.x, 15, ()⟩, ⟨.x, 16, ()⟩, ⟨.x, 17, ()⟩, ⟨.x, 18, ()⟩, ⟨.x, 19, ()⟩, ⟨.x, 1, ()⟩]) (s := ()) 39 rfl rfl ⟨.inl rfl, .inl rfl, .inl rfl, .inl rfl, .inl rfl, .inl rfl, .inl rfl, .inl rfl, .inl rfl, .inl rfl, .inl rfl, .inl rfl, .inl rfl, .inl rfl, .inl rfl, .inl rfl, .inl rfl, .inl rfl, .inl rfl, trivial⟩))))))))))))))))))))))))))))))))))))))))))
      (fun s21 => (sb_ret se_bl)))) ?_ h
  intro b P h
  simp only [↓reduceIte, decide_eq_true_eq, D.bind, D.pure, D.need, D.any, D.nox] at h ⊢
  have lw : (100000 : Int) < limW := by decide +kernel
  obtain ⟨h63, h⟩ := h
  refine ⟨Nat.le_trans (Nat.add_le_add_right h63 _) (by decide), forD_unit h fun cell hcell k hk => ?_⟩
  refine ⟨⟨by decide, by omega⟩, fun gn hgn => ⟨fun z => z.length ≤ 100 ∧ (gn = 0 → z = Str.ofString ""), ite2 (fun _ => ⟨by decide, fun _ => rfl⟩) (fun e => fun z hz => ⟨hz, fun q => absurd q e⟩), fun z hz => ?_⟩⟩
  obtain ⟨hz, hz0⟩ := hz
  refine ⟨⟨by omega, by omega⟩, fun c hc => ?_⟩
  have hg : ∀ s ∈ c.r.1.r.1, good5 (unS s) := fun s hs => good_of (hc.span s hs)
  refine ⟨⟨⟨by omega, by omega⟩, hg, hc.when⟩, hc.when, ?_⟩
  obtain ⟨⟨⟨⟨ps, mine, oth, u1⟩⟩, mk, u2⟩⟩ := c
  dsimp only at hc hg ⊢
  have pl := places_lt ps oth mk (z.length : Int)
  have pb : ∀ x ∈ placesT ps oth mk (z.length : Int), 0 ≤ x ∧ x < (z.length : Int) := fun x hx => by
    unfold placesT at hx
    have : x ∈ rngL 0 (z.length : Int).toNat := by
      split at hx
      · exact hx
      · exact (List.mem_filter.mp hx).1
    have := mem_rngL.mp this
    omega
  generalize hX : placesT ps oth mk (z.length : Int) = xs at pl pb ⊢
  generalize hW : wordV ps mine oth mk xs = wd
  refine ⟨fun d => d = if wd ∈ [Str.ofString "whole", Str.ofString "part"] then (partsF (sgn z) (jn (xs.map fun x => (x, x + 1)))).map tuP else [], ite2 (fun e => ⟨⟨⟨pl, pb⟩, by omega⟩, by rw [if_pos e]⟩) (fun e => by rw [if_neg e]), fun due hdue => ?_⟩
  refine ⟨⟨⟨pl, pb⟩, by omega, by omega⟩, fun kn hkn => ⟨⟨hkn.1, by omega⟩, ?_⟩⟩
  refine ⟨fun s => s = (partsF (sgn z) (jn (kn.map fun x => (x, x + 1)))).map tuP ∨ (wd ∈ [Str.ofString "same", Str.ofString "beyond"] ∧ s = []), ite2 (fun e => ⟨⟨by decide, by omega⟩, fun d hd => ite2 (fun _ => .inr ⟨e, rfl⟩) (fun _ => .inl rfl)⟩) (fun e => iteF' (by simp) (.inl rfl)), fun s hs => ?_⟩
  refine ⟨fun q => q.l = s, ⟨⟨by decide, by omega⟩, fun d hd => at_draw ⟨hd.1, hd.2⟩ fun q hq => ?_⟩, fun q hq => ?_⟩
  · simp only [List.mem_cons, List.not_mem_nil, or_false] at hq
    rcases hq with rfl | rfl <;> rfl
  have l9 : (10 : Int) ^ (Int.toNat 9) < limW := by decide +kernel
  have l60 : (10 : Int) ^ (Int.toNat 60) < limW := by decide +kernel
  refine ⟨⟨by decide, by decide, by decide⟩, ⟨by decide +kernel, l9⟩, fun n0 hn0 => ⟨⟨by decide, by decide, by decide⟩, ⟨by decide +kernel, l60⟩, fun n1 hn1 => ⟨⟨by decide, by omega⟩, fun n2 hn2 => ?_⟩⟩⟩
  refine ⟨n0, atI_nat (j := 0) rfl, n1, atI_nat (j := 1) rfl, ?_⟩
  have hq : q.l = s := hq
  have hwr : wrongA (Str.ofString "a/b") [] ps mine oth = none := by
    unfold wrongA
    rw [if_neg (by decide +kernel), if_neg (by decide), if_neg (by rw [List.all_eq_true.mpr hc.span]; decide), if_neg (by rw [List.all_eq_true.mpr hc.mine]; decide)]
    cases oth with
    | none => rfl
    | some m =>
      show (if mkB m = false then _ else _) = _
      rw [if_neg (by rw [hc.when m rfl]; decide)]
  refine ⟨⟨by decide, by decide, fun _ h => nomatch h⟩, ?_⟩
  rw [show (none : Option (List (Str × Str))).getD [] = [] from rfl, hwr]
  have ehd : sortD (DatO.enc K (rTu K (rsC rS (rsC rS rs0)))) (rowD []) = [] := sort_nil _
  rw [ehd]
  have okA : OkAsk ⟨Str.ofString "a/b", ⟨[]⟩, ⟨ps⟩, ⟨mine⟩, oth, wish0⟩ := ⟨hc.when, by show ps.length ≤ 1000; have := hc.many; have : ps.length ≤ 10 := this; omega, hg⟩
  have ew : wordA ⟨Str.ofString "a/b", ⟨[]⟩, ⟨ps⟩, ⟨mine⟩, oth, wish0⟩ mk z.length = wd := by
    rw [word_V okA mk (by omega), ← hW, ← hX]
  have es : sizeA ⟨Str.ofString "a/b", ⟨[]⟩, ⟨ps⟩, ⟨mine⟩, oth, wish0⟩ mk z.length = z.length := size_ok fun e => by
    have := of_decide_eq_true (hc.none.mp e)
    rw [hz0 this]
    rfl
  obtain ⟨S, e1, e2, e3, e4⟩ := out_due (A := ⟨Str.ofString "a/b", ⟨[]⟩, ⟨ps⟩, ⟨mine⟩, oth, wish0⟩) okA (mk := mk) hz hkn.1.1 hkn.1.2 (by rw [show placesT ps oth mk (z.length : Int) = xs from hX]; exact hkn.2) (s := s) (by rw [ew]; exact hs)
  rw [ew, show placesT ps oth mk (z.length : Int) = xs from hX] at e4
  have hdue : due = _ := hdue
  rw [← hdue] at e4
  have ld : due.length ≤ 10000 := by
    rw [hdue]
    split
    · have lx := places_len ps oth mk (z.length : Int)
      rw [hX] at lx
      have lj := jn_len (xs.map fun x => (x, x + 1))
      rw [List.length_map] at lj ⊢
      unfold partsF
      rw [List.length_map]
      omega
    · exact Nat.zero_le _
  refine rdWish_nil ⟨ok_wish0, ?_⟩
  refine ⟨n1, atI_nat (j := 1) rfl, n0, atI_nat (j := 0) rfl, okA, ⟨by omega, by omega⟩, sgn z, S, hq.trans e1, e2, e3, ?_⟩
  rw [ew, es, e4]
  refine iteF' (by simp) (iteF' (by simp [hq]) ⟨ok_wish0, iteF' (by simp) ⟨n0, atI_nat (j := 0) rfl, n1, atI_nat (j := 1) rfl, ⟨rfl, ld⟩, iteF' (by simp) ⟨n1, atI_nat (j := 1) rfl, iteF' (by simp) ⟨okA, ⟨by omega, by omega⟩, sgn z, S, hq.trans e1, e2, e3, ?_⟩⟩⟩⟩)
  rw [e4]
  exact ⟨⟨rfl, ld⟩, iteF' (by simp) (iteF' (by simp [rule0]) hk)⟩
theorem ok_law (T : Txt K mg) : FnOk P w K mg base CX0 8 T.f_law T.fd_law ["_law_script"] (spLaw K) := (ok_law1 T).imp law_imp63
end
end My
namespace My
open PySem PySem.Spec PyProof.Rows L2 TL
open Lx hiding ints_of paired_app paired_at Wd
theorem all_mk {l : PySem.W.OpenLaw} {w : World} {K : PySem.W.Frag} {h : Heap} {mg : Str → Option Value} {fa : Addr} (X : K.In h) (G : h.Ns mainGlobals mg) (hfa : mg "law" = some (.ref fa))
    {C_Wish : Addr} (aC_Wish : PySem.W.nsIn K mainGlobals "Wish" = some (some (.ref C_Wish))) (pg_Wish : PySem.W.plainGet K C_Wish Str.empty = true) (hd_Wish : PySem.W.hasDictIn K C_Wish = true) (po_Wish : PySem.W.plainOver K C_Wish = true) (sa_Wish : PySem.W.findIn K (.ref C_Wish) "__setattr__" = some (some (.builtin "object.__setattr__")))
    (mk_Wish : PySem.W.makesIn K C_Wish = true) (kc_Wish : PySem.W.keepIn K (.ref C_Wish) = true)
    (n_Wish_atmost : PySem.W.findIn K (.ref C_Wish) "atmost" = some none)
    (n_Wish_left : PySem.W.findIn K (.ref C_Wish) "left" = some none)
    (n_Wish_worn : PySem.W.findIn K (.ref C_Wish) "worn" = some none)
    (n_Wish_anew : PySem.W.findIn K (.ref C_Wish) "anew" = some none)
    (n_Wish_kept : PySem.W.findIn K (.ref C_Wish) "kept" = some none)
    (n_Wish_firm : PySem.W.findIn K (.ref C_Wish) "firm" = some none)
    {C_Ask : Addr} (aC_Ask : PySem.W.nsIn K mainGlobals "Ask" = some (some (.ref C_Ask))) (pg_Ask : PySem.W.plainGet K C_Ask Str.empty = true) (hd_Ask : PySem.W.hasDictIn K C_Ask = true) (po_Ask : PySem.W.plainOver K C_Ask = true) (sa_Ask : PySem.W.findIn K (.ref C_Ask) "__setattr__" = some (some (.builtin "object.__setattr__")))
    (mk_Ask : PySem.W.makesIn K C_Ask = true) (kc_Ask : PySem.W.keepIn K (.ref C_Ask) = true)
    (n_Ask_path : PySem.W.findIn K (.ref C_Ask) "path" = some none)
    (n_Ask_heads : PySem.W.findIn K (.ref C_Ask) "heads" = some none)
    (n_Ask_spans : PySem.W.findIn K (.ref C_Ask) "spans" = some none)
    (n_Ask_unless : PySem.W.findIn K (.ref C_Ask) "unless" = some none)
    (n_Ask_when : PySem.W.findIn K (.ref C_Ask) "when" = some none)
    (n_Ask_wish : PySem.W.findIn K (.ref C_Ask) "wish" = some none)
    {C_Answer : Addr} (aC_Answer : PySem.W.nsIn K mainGlobals "Answer" = some (some (.ref C_Answer))) (pg_Answer : PySem.W.plainGet K C_Answer Str.empty = true) (hd_Answer : PySem.W.hasDictIn K C_Answer = true) (po_Answer : PySem.W.plainOver K C_Answer = true) (sa_Answer : PySem.W.findIn K (.ref C_Answer) "__setattr__" = some (some (.builtin "object.__setattr__")))
    (mk_Answer : PySem.W.makesIn K C_Answer = true) (kc_Answer : PySem.W.keepIn K (.ref C_Answer) = true)
    (n_Answer_word : PySem.W.findIn K (.ref C_Answer) "word" = some none)
    (n_Answer_mark : PySem.W.findIn K (.ref C_Answer) "mark" = some none)
    (n_Answer_size : PySem.W.findIn K (.ref C_Answer) "size" = some none)
    (n_Answer_parts : PySem.W.findIn K (.ref C_Answer) "parts" = some none)
    (n_Answer_age : PySem.W.findIn K (.ref C_Answer) "age" = some none)
    (n_Answer_count : PySem.W.findIn K (.ref C_Answer) "count" = some none)
    (n_Answer_rule : PySem.W.findIn K (.ref C_Answer) "rule" = some none)
    (n_Answer_turns : PySem.W.findIn K (.ref C_Answer) "turns" = some none)
    (n_Answer_tags : PySem.W.findIn K (.ref C_Answer) "tags" = some none)
    (n_Answer_ground : PySem.W.findIn K (.ref C_Answer) "ground" = some none)
    {C_Rule : Addr} (aC_Rule : PySem.W.nsIn K mainGlobals "Rule" = some (some (.ref C_Rule))) (pg_Rule : PySem.W.plainGet K C_Rule Str.empty = true) (hd_Rule : PySem.W.hasDictIn K C_Rule = true) (po_Rule : PySem.W.plainOver K C_Rule = true) (sa_Rule : PySem.W.findIn K (.ref C_Rule) "__setattr__" = some (some (.builtin "object.__setattr__")))
    (mk_Rule : PySem.W.makesIn K C_Rule = true) (kc_Rule : PySem.W.keepIn K (.ref C_Rule) = true)
    (n_Rule_keep : PySem.W.findIn K (.ref C_Rule) "keep" = some none)
    (n_Rule_worn : PySem.W.findIn K (.ref C_Rule) "worn" = some none)
    (n_Rule_alone : PySem.W.findIn K (.ref C_Rule) "alone" = some none)
    (n_Rule_anew : PySem.W.findIn K (.ref C_Rule) "anew" = some none)
    (n_Rule_own : PySem.W.findIn K (.ref C_Rule) "own" = some none)
    (n_Rule_common : PySem.W.findIn K (.ref C_Rule) "common" = some none)
    (n_Rule_never : PySem.W.findIn K (.ref C_Rule) "never" = some none)
    (n_Rule_strict : PySem.W.findIn K (.ref C_Rule) "strict" = some none)
    (ha_Answer : PySem.W.findIn K (.ref C_Answer) "__class__" = some (some (.builtin "object.__class__"))) (hm_Answer : PySem.W.mroIn K C_Answer (.type "object") = some true)
    (hn_cls : PySem.W.specialIn K (.builtin "object.__class__") "__get__" = some (some (.builtin "getset_descriptor.__get__"))) (htk_cls : PySem.W.takesIn K (.builtin "object.__class__") = some true)
    (ki_Answer_Answer : PySem.W.kitOne K (.ref C_Answer) (.ref C_Answer) = some true)
    {C_NoAsk : Addr} (aC_NoAsk : PySem.W.nsIn K mainGlobals "NoAsk" = some (some (.ref C_NoAsk)))
    {C_NoWish : Addr} (aC_NoWish : PySem.W.nsIn K mainGlobals "NoWish" = some (some (.ref C_NoWish)))
    {C_PageError : Addr} (aC_PageError : PySem.W.nsIn K mainGlobals "PageError" = some (some (.ref C_PageError)))
    {nm_NoAsk q_NoAsk : Str} {N_NoAsk : Addr} {bs_NoAsk : List Value} {sn_NoAsk : List Str} {sub_NoAsk : List Value} {ab_NoAsk : Bool} {col_NoAsk : Option Bool} {dd_NoAsk : Option Addr} {m0_NoAsk m1_NoAsk m2_NoAsk m3_NoAsk m5_NoAsk : Option Value}
    (xL_NoAsk : K.lookup C_NoAsk = some (excClassObj nm_NoAsk q_NoAsk C_NoAsk N_NoAsk bs_NoAsk [.ref C_PageError, .type "ValueError", .type "Exception", .type "BaseException", .type "object"] true sn_NoAsk sub_NoAsk ab_NoAsk col_NoAsk dd_NoAsk m0_NoAsk m1_NoAsk m2_NoAsk m3_NoAsk m5_NoAsk "ValueError.__new__"))
    (sa_NoAsk : PySem.W.findIn K (.ref C_NoAsk) "__setattr__" = some (some (.builtin "object.__setattr__")))
    (ga_NoAsk : PySem.W.findIn K (.ref C_NoAsk) "__getattribute__" = some (some (.builtin "BaseException.__getattribute__")))
    (gg_NoAsk : PySem.W.findIn K (.ref C_NoAsk) "__getattr__" = some none)
    (nb_NoAsk : PySem.W.findIn K (.ref C_NoAsk) "why" = some none)
    (kc_NoAsk : PySem.W.keepIn K (.ref C_NoAsk) = true)
    (ec_NoAsk : PySem.W.subIn K (.ref C_NoAsk) (.type "BaseException") = some true)
    (tc_NoAsk : PySem.W.typeIn K (.ref C_NoAsk) = some (.type "type"))
    (hc_NoAsk : PySem.W.hasDictIn K C_NoAsk = true)
    (cc_NoAsk : PySem.W.findIn K (.ref C_NoAsk) "__class__" = some (some (.builtin "object.__class__")))
    (mc_NoAsk : PySem.W.mroIn K C_NoAsk (.type "object") = some true)
    (sc_NoAsk : PySem.W.subIn K (.ref C_NoAsk) (.ref C_NoAsk) = some true)
    {nm_NoWish q_NoWish : Str} {N_NoWish : Addr} {bs_NoWish : List Value} {sn_NoWish : List Str} {sub_NoWish : List Value} {ab_NoWish : Bool} {col_NoWish : Option Bool} {dd_NoWish : Option Addr} {m0_NoWish m1_NoWish m2_NoWish m3_NoWish m5_NoWish : Option Value}
    (xL_NoWish : K.lookup C_NoWish = some (excClassObj nm_NoWish q_NoWish C_NoWish N_NoWish bs_NoWish [.ref C_PageError, .type "ValueError", .type "Exception", .type "BaseException", .type "object"] true sn_NoWish sub_NoWish ab_NoWish col_NoWish dd_NoWish m0_NoWish m1_NoWish m2_NoWish m3_NoWish m5_NoWish "ValueError.__new__"))
    (sa_NoWish : PySem.W.findIn K (.ref C_NoWish) "__setattr__" = some (some (.builtin "object.__setattr__")))
    (ga_NoWish : PySem.W.findIn K (.ref C_NoWish) "__getattribute__" = some (some (.builtin "BaseException.__getattribute__")))
    (gg_NoWish : PySem.W.findIn K (.ref C_NoWish) "__getattr__" = some none)
    (nb_NoWish : PySem.W.findIn K (.ref C_NoWish) "at" = some none)
    (kc_NoWish : PySem.W.keepIn K (.ref C_NoWish) = true)
    (ec_NoWish : PySem.W.subIn K (.ref C_NoWish) (.type "BaseException") = some true)
    (tc_NoWish : PySem.W.typeIn K (.ref C_NoWish) = some (.type "type"))
    (hc_NoWish : PySem.W.hasDictIn K C_NoWish = true)
    (cc_NoWish : PySem.W.findIn K (.ref C_NoWish) "__class__" = some (some (.builtin "object.__class__")))
    (mc_NoWish : PySem.W.mroIn K C_NoWish (.type "object") = some true)
    (sc_NoWish : PySem.W.subIn K (.ref C_NoWish) (.ref C_NoWish) = some true)
    {f0 : Addr} {od0 an0 : Option Addr} {sl0 : Array (Option Value)} {oc0 kV0 dc0 pm0 cd0 ct0 : Value}
    (a0 : PySem.W.nsIn K mainGlobals "is_whole" = some (some (.ref f0)))
    (l0 : K.lookup f0 = some ⟨oc0, od0, .func (PySem.W.fnOf "is_whole" "is_whole" (defArgs s_is_whole) (defBody s_is_whole) (defScope s_is_whole) .none kV0 dc0 pm0 an0 cd0 ct0), sl0⟩) (c0 : PySem.W.codeIn K cd0 "is_whole" = true) (k0 : PySem.W.keepIn K (.ref f0) = true)
    {f1 : Addr} {od1 an1 : Option Addr} {sl1 : Array (Option Value)} {oc1 kV1 dc1 pm1 cd1 ct1 : Value}
    (a1 : PySem.W.nsIn K mainGlobals "is_made_of" = some (some (.ref f1)))
    (l1 : K.lookup f1 = some ⟨oc1, od1, .func (PySem.W.fnOf "is_made_of" "is_made_of" (defArgs s_is_made_of) (defBody s_is_made_of) (defScope s_is_made_of) .none kV1 dc1 pm1 an1 cd1 ct1), sl1⟩) (c1 : PySem.W.codeIn K cd1 "is_made_of" = true) (k1 : PySem.W.keepIn K (.ref f1) = true)
    {f2 : Addr} {od2 an2 : Option Addr} {sl2 : Array (Option Value)} {oc2 kV2 dc2 pm2 cd2 ct2 : Value}
    (a2 : PySem.W.nsIn K mainGlobals "is_name" = some (some (.ref f2)))
    (l2 : K.lookup f2 = some ⟨oc2, od2, .func (PySem.W.fnOf "is_name" "is_name" (defArgs s_is_name) (defBody s_is_name) (defScope s_is_name) .none kV2 dc2 pm2 an2 cd2 ct2), sl2⟩) (c2 : PySem.W.codeIn K cd2 "is_name" = true) (k2 : PySem.W.keepIn K (.ref f2) = true)
    {f3 : Addr} {od3 an3 : Option Addr} {sl3 : Array (Option Value)} {oc3 kV3 dc3 pm3 cd3 ct3 : Value}
    (a3 : PySem.W.nsIn K mainGlobals "is_worth" = some (some (.ref f3)))
    (l3 : K.lookup f3 = some ⟨oc3, od3, .func (PySem.W.fnOf "is_worth" "is_worth" (defArgs s_is_worth) (defBody s_is_worth) (defScope s_is_worth) .none kV3 dc3 pm3 an3 cd3 ct3), sl3⟩) (c3 : PySem.W.codeIn K cd3 "is_worth" = true) (k3 : PySem.W.keepIn K (.ref f3) = true)
    {f4 : Addr} {od4 an4 : Option Addr} {sl4 : Array (Option Value)} {oc4 kV4 dc4 pm4 cd4 ct4 : Value}
    (a4 : PySem.W.nsIn K mainGlobals "is_path" = some (some (.ref f4)))
    (l4 : K.lookup f4 = some ⟨oc4, od4, .func (PySem.W.fnOf "is_path" "is_path" (defArgs s_is_path) (defBody s_is_path) (defScope s_is_path) .none kV4 dc4 pm4 an4 cd4 ct4), sl4⟩) (c4 : PySem.W.codeIn K cd4 "is_path" = true) (k4 : PySem.W.keepIn K (.ref f4) = true)
    {f5 : Addr} {od5 an5 : Option Addr} {sl5 : Array (Option Value)} {oc5 kV5 dc5 pm5 cd5 ct5 : Value}
    (a5 : PySem.W.nsIn K mainGlobals "is_figures" = some (some (.ref f5)))
    (l5 : K.lookup f5 = some ⟨oc5, od5, .func (PySem.W.fnOf "is_figures" "is_figures" (defArgs s_is_figures) (defBody s_is_figures) (defScope s_is_figures) .none kV5 dc5 pm5 an5 cd5 ct5), sl5⟩) (c5 : PySem.W.codeIn K cd5 "is_figures" = true) (k5 : PySem.W.keepIn K (.ref f5) = true)
    {f6 : Addr} {od6 an6 : Option Addr} {sl6 : Array (Option Value)} {oc6 kV6 dc6 pm6 cd6 ct6 : Value}
    (a6 : PySem.W.nsIn K mainGlobals "is_mark" = some (some (.ref f6)))
    (l6 : K.lookup f6 = some ⟨oc6, od6, .func (PySem.W.fnOf "is_mark" "is_mark" (defArgs s_is_mark) (defBody s_is_mark) (defScope s_is_mark) .none kV6 dc6 pm6 an6 cd6 ct6), sl6⟩) (c6 : PySem.W.codeIn K cd6 "is_mark" = true) (k6 : PySem.W.keepIn K (.ref f6) = true)
    {f7 : Addr} {od7 an7 : Option Addr} {sl7 : Array (Option Value)} {oc7 kV7 dc7 pm7 cd7 ct7 : Value}
    (a7 : PySem.W.nsIn K mainGlobals "is_strong" = some (some (.ref f7)))
    (l7 : K.lookup f7 = some ⟨oc7, od7, .func (PySem.W.fnOf "is_strong" "is_strong" (defArgs s_is_strong) (defBody s_is_strong) (defScope s_is_strong) .none kV7 dc7 pm7 an7 cd7 ct7), sl7⟩) (c7 : PySem.W.codeIn K cd7 "is_strong" = true) (k7 : PySem.W.keepIn K (.ref f7) = true)
    {f8 : Addr} {od8 an8 : Option Addr} {sl8 : Array (Option Value)} {oc8 kV8 dc8 pm8 cd8 ct8 : Value}
    (a8 : PySem.W.nsIn K mainGlobals "heads_row" = some (some (.ref f8)))
    (l8 : K.lookup f8 = some ⟨oc8, od8, .func (PySem.W.fnOf "heads_row" "heads_row" (defArgs s_heads_row) (defBody s_heads_row) (defScope s_heads_row) .none kV8 dc8 pm8 an8 cd8 ct8), sl8⟩) (c8 : PySem.W.codeIn K cd8 "heads_row" = true) (k8 : PySem.W.keepIn K (.ref f8) = true)
    {f9 : Addr} {od9 an9 : Option Addr} {sl9 : Array (Option Value)} {oc9 kV9 dc9 pm9 cd9 ct9 : Value}
    (a9 : PySem.W.nsIn K mainGlobals "in_words" = some (some (.ref f9)))
    (l9 : K.lookup f9 = some ⟨oc9, od9, .func (PySem.W.fnOf "in_words" "in_words" (defArgs s_in_words) (defBody s_in_words) (defScope s_in_words) .none kV9 dc9 pm9 an9 cd9 ct9), sl9⟩) (c9 : PySem.W.codeIn K cd9 "in_words" = true) (k9 : PySem.W.keepIn K (.ref f9) = true)
    {f10 : Addr} {od10 an10 : Option Addr} {sl10 : Array (Option Value)} {oc10 kV10 dc10 pm10 cd10 ct10 : Value}
    (a10 : PySem.W.nsIn K mainGlobals "read_wish" = some (some (.ref f10)))
    (l10 : K.lookup f10 = some ⟨oc10, od10, .func (PySem.W.fnOf "read_wish" "read_wish" (defArgs s_read_wish) (defBody s_read_wish) (defScope s_read_wish) .none kV10 dc10 pm10 an10 cd10 ct10), sl10⟩) (c10 : PySem.W.codeIn K cd10 "read_wish" = true) (k10 : PySem.W.keepIn K (.ref f10) = true)
    {f11 : Addr} {od11 an11 : Option Addr} {sl11 : Array (Option Value)} {oc11 kV11 dc11 pm11 cd11 ct11 : Value}
    (a11 : PySem.W.nsIn K mainGlobals "words_told" = some (some (.ref f11)))
    (l11 : K.lookup f11 = some ⟨oc11, od11, .func (PySem.W.fnOf "words_told" "words_told" (defArgs s_words_told) (defBody s_words_told) (defScope s_words_told) .none kV11 dc11 pm11 an11 cd11 ct11), sl11⟩) (c11 : PySem.W.codeIn K cd11 "words_told" = true) (k11 : PySem.W.keepIn K (.ref f11) = true)
    {f12 : Addr} {od12 an12 : Option Addr} {sl12 : Array (Option Value)} {oc12 kV12 dc12 pm12 cd12 ct12 : Value}
    (a12 : PySem.W.nsIn K mainGlobals "word_told" = some (some (.ref f12)))
    (l12 : K.lookup f12 = some ⟨oc12, od12, .func (PySem.W.fnOf "word_told" "word_told" (defArgs s_word_told) (defBody s_word_told) (defScope s_word_told) .none kV12 dc12 pm12 an12 cd12 ct12), sl12⟩) (c12 : PySem.W.codeIn K cd12 "word_told" = true) (k12 : PySem.W.keepIn K (.ref f12) = true)
    {f13 : Addr} {od13 an13 : Option Addr} {sl13 : Array (Option Value)} {oc13 kV13 dc13 pm13 cd13 ct13 : Value}
    (a13 : PySem.W.nsIn K mainGlobals "first_wrong" = some (some (.ref f13)))
    (l13 : K.lookup f13 = some ⟨oc13, od13, .func (PySem.W.fnOf "first_wrong" "first_wrong" (defArgs s_first_wrong) (defBody s_first_wrong) (defScope s_first_wrong) .none kV13 dc13 pm13 an13 cd13 ct13), sl13⟩) (c13 : PySem.W.codeIn K cd13 "first_wrong" = true) (k13 : PySem.W.keepIn K (.ref f13) = true)
    {f14 : Addr} {od14 an14 : Option Addr} {sl14 : Array (Option Value)} {oc14 kV14 dc14 pm14 cd14 ct14 : Value}
    (a14 : PySem.W.nsIn K mainGlobals "suits_its_name" = some (some (.ref f14)))
    (l14 : K.lookup f14 = some ⟨oc14, od14, .func (PySem.W.fnOf "suits_its_name" "suits_its_name" (defArgs s_suits_its_name) (defBody s_suits_its_name) (defScope s_suits_its_name) .none kV14 dc14 pm14 an14 cd14 ct14), sl14⟩) (c14 : PySem.W.codeIn K cd14 "suits_its_name" = true) (k14 : PySem.W.keepIn K (.ref f14) = true)
    {f15 : Addr} {od15 an15 : Option Addr} {sl15 : Array (Option Value)} {oc15 kV15 dc15 pm15 cd15 ct15 : Value}
    (a15 : PySem.W.nsIn K mainGlobals "numbers_told" = some (some (.ref f15)))
    (l15 : K.lookup f15 = some ⟨oc15, od15, .func (PySem.W.fnOf "numbers_told" "numbers_told" (defArgs s_numbers_told) (defBody s_numbers_told) (defScope s_numbers_told) .none kV15 dc15 pm15 an15 cd15 ct15), sl15⟩) (c15 : PySem.W.codeIn K cd15 "numbers_told" = true) (k15 : PySem.W.keepIn K (.ref f15) = true)
    {f16 : Addr} {od16 an16 : Option Addr} {sl16 : Array (Option Value)} {oc16 kV16 dc16 pm16 cd16 ct16 : Value}
    (a16 : PySem.W.nsIn K mainGlobals "is_told" = some (some (.ref f16)))
    (l16 : K.lookup f16 = some ⟨oc16, od16, .func (PySem.W.fnOf "is_told" "is_told" (defArgs s_is_told) (defBody s_is_told) (defScope s_is_told) .none kV16 dc16 pm16 an16 cd16 ct16), sl16⟩) (c16 : PySem.W.codeIn K cd16 "is_told" = true) (k16 : PySem.W.keepIn K (.ref f16) = true)
    {f17 : Addr} {od17 an17 : Option Addr} {sl17 : Array (Option Value)} {oc17 kV17 dc17 pm17 cd17 ct17 : Value}
    (a17 : PySem.W.nsIn K mainGlobals "are_ends" = some (some (.ref f17)))
    (l17 : K.lookup f17 = some ⟨oc17, od17, .func (PySem.W.fnOf "are_ends" "are_ends" (defArgs s_are_ends) (defBody s_are_ends) (defScope s_are_ends) .none kV17 dc17 pm17 an17 cd17 ct17), sl17⟩) (c17 : PySem.W.codeIn K cd17 "are_ends" = true) (k17 : PySem.W.keepIn K (.ref f17) = true)
    {f18 : Addr} {od18 an18 : Option Addr} {sl18 : Array (Option Value)} {oc18 kV18 dc18 pm18 cd18 ct18 : Value}
    (a18 : PySem.W.nsIn K mainGlobals "is_span" = some (some (.ref f18)))
    (l18 : K.lookup f18 = some ⟨oc18, od18, .func (PySem.W.fnOf "is_span" "is_span" (defArgs s_is_span) (defBody s_is_span) (defScope s_is_span) .none kV18 dc18 pm18 an18 cd18 ct18), sl18⟩) (c18 : PySem.W.codeIn K cd18 "is_span" = true) (k18 : PySem.W.keepIn K (.ref f18) = true)
    {f19 : Addr} {od19 an19 : Option Addr} {sl19 : Array (Option Value)} {oc19 kV19 dc19 pm19 cd19 ct19 : Value}
    (a19 : PySem.W.nsIn K mainGlobals "is_bound" = some (some (.ref f19)))
    (l19 : K.lookup f19 = some ⟨oc19, od19, .func (PySem.W.fnOf "is_bound" "is_bound" (defArgs s_is_bound) (defBody s_is_bound) (defScope s_is_bound) .none kV19 dc19 pm19 an19 cd19 ct19), sl19⟩) (c19 : PySem.W.codeIn K cd19 "is_bound" = true) (k19 : PySem.W.keepIn K (.ref f19) = true)
    {f20 : Addr} {od20 an20 : Option Addr} {sl20 : Array (Option Value)} {oc20 kV20 dc20 pm20 cd20 ct20 : Value}
    (a20 : PySem.W.nsIn K mainGlobals "stretches" = some (some (.ref f20)))
    (l20 : K.lookup f20 = some ⟨oc20, od20, .func (PySem.W.fnOf "stretches" "stretches" (defArgs s_stretches) (defBody s_stretches) (defScope s_stretches) .none kV20 dc20 pm20 an20 cd20 ct20), sl20⟩) (c20 : PySem.W.codeIn K cd20 "stretches" = true) (k20 : PySem.W.keepIn K (.ref f20) = true)
    {f21 : Addr} {od21 an21 : Option Addr} {sl21 : Array (Option Value)} {oc21 kV21 dc21 pm21 cd21 ct21 : Value}
    (a21 : PySem.W.nsIn K mainGlobals "within" = some (some (.ref f21)))
    (l21 : K.lookup f21 = some ⟨oc21, od21, .func (PySem.W.fnOf "within" "within" (defArgs s_within) (defBody s_within) (defScope s_within) .none kV21 dc21 pm21 an21 cd21 ct21), sl21⟩) (c21 : PySem.W.codeIn K cd21 "within" = true) (k21 : PySem.W.keepIn K (.ref f21) = true)
    {f22 : Addr} {od22 an22 : Option Addr} {sl22 : Array (Option Value)} {oc22 kV22 dc22 pm22 cd22 ct22 : Value}
    (a22 : PySem.W.nsIn K mainGlobals "merged" = some (some (.ref f22)))
    (l22 : K.lookup f22 = some ⟨oc22, od22, .func (PySem.W.fnOf "merged" "merged" (defArgs s_merged) (defBody s_merged) (defScope s_merged) .none kV22 dc22 pm22 an22 cd22 ct22), sl22⟩) (c22 : PySem.W.codeIn K cd22 "merged" = true) (k22 : PySem.W.keepIn K (.ref f22) = true)
    {f23 : Addr} {od23 an23 : Option Addr} {sl23 : Array (Option Value)} {oc23 kV23 dc23 pm23 cd23 ct23 : Value}
    (a23 : PySem.W.nsIn K mainGlobals "told_by" = some (some (.ref f23)))
    (l23 : K.lookup f23 = some ⟨oc23, od23, .func (PySem.W.fnOf "told_by" "told_by" (defArgs s_told_by) (defBody s_told_by) (defScope s_told_by) .none kV23 dc23 pm23 an23 cd23 ct23), sl23⟩) (c23 : PySem.W.codeIn K cd23 "told_by" = true) (k23 : PySem.W.keepIn K (.ref f23) = true)
    {f24 : Addr} {od24 an24 : Option Addr} {sl24 : Array (Option Value)} {oc24 kV24 dc24 pm24 cd24 ct24 : Value}
    (a24 : PySem.W.nsIn K mainGlobals "meetings" = some (some (.ref f24)))
    (l24 : K.lookup f24 = some ⟨oc24, od24, .func (PySem.W.fnOf "meetings" "meetings" (defArgs s_meetings) (defBody s_meetings) (defScope s_meetings) .none kV24 dc24 pm24 an24 cd24 ct24), sl24⟩) (c24 : PySem.W.codeIn K cd24 "meetings" = true) (k24 : PySem.W.keepIn K (.ref f24) = true)
    {f25 : Addr} {od25 an25 : Option Addr} {sl25 : Array (Option Value)} {oc25 kV25 dc25 pm25 cd25 ct25 : Value}
    (a25 : PySem.W.nsIn K mainGlobals "cut" = some (some (.ref f25)))
    (l25 : K.lookup f25 = some ⟨oc25, od25, .func (PySem.W.fnOf "cut" "cut" (defArgs s_cut) (defBody s_cut) (defScope s_cut) .none kV25 dc25 pm25 an25 cd25 ct25), sl25⟩) (c25 : PySem.W.codeIn K cd25 "cut" = true) (k25 : PySem.W.keepIn K (.ref f25) = true)
    {f26 : Addr} {od26 an26 : Option Addr} {sl26 : Array (Option Value)} {oc26 kV26 dc26 pm26 cd26 ct26 : Value}
    (a26 : PySem.W.nsIn K mainGlobals "wrong_in_ask" = some (some (.ref f26)))
    (l26 : K.lookup f26 = some ⟨oc26, od26, .func (PySem.W.fnOf "wrong_in_ask" "wrong_in_ask" (defArgs s_wrong_in_ask) (defBody s_wrong_in_ask) (defScope s_wrong_in_ask) .none kV26 dc26 pm26 an26 cd26 ct26), sl26⟩) (c26 : PySem.W.codeIn K cd26 "wrong_in_ask" = true) (k26 : PySem.W.keepIn K (.ref f26) = true)
    {f27 : Addr} {od27 an27 : Option Addr} {sl27 : Array (Option Value)} {oc27 dc27 pm27 cd27 ct27 : Value} {D27 : Addr}
    (a27 : PySem.W.nsIn K mainGlobals "answered" = some (some (.ref f27)))
    (l27 : K.lookup f27 = some ⟨oc27, od27, .func (PySem.W.fnOf "answered" "answered" (defArgs s_answered) (defBody s_answered) (defScope s_answered) .none (.ref D27) dc27 pm27 an27 cd27 ct27), sl27⟩) (c27 : PySem.W.codeIn K cd27 "answered" = true) (k27 : PySem.W.keepIn K (.ref f27) = true)
    {tk_answered_age : Tok}
    (y_answered_age : PySem.W.nsIn K D27 "age" = some (some (.int 0 tk_answered_age)))
    {tk_answered_count : Tok}
    (y_answered_count : PySem.W.nsIn K D27 "count" = some (some (.int 0 tk_answered_count)))
    (y_answered_rule : PySem.W.nsIn K D27 "rule" = some (some (.none)))
    {e_answered_turns : Addr}
    (y_answered_turns : PySem.W.nsIn K D27 "turns" = some (some (.ref e_answered_turns)))
    {od_answered_turns : Option Addr} {nn_answered_turns : Nat} {sl_answered_turns : Array (Option Value)} (ye_answered_turns : K.lookup e_answered_turns = some ⟨.type "tuple", od_answered_turns, .seq #[] nn_answered_turns, sl_answered_turns⟩)
    {e_answered_tags : Addr}
    (y_answered_tags : PySem.W.nsIn K D27 "tags" = some (some (.ref e_answered_tags)))
    {od_answered_tags : Option Addr} {nn_answered_tags : Nat} {sl_answered_tags : Array (Option Value)} (ye_answered_tags : K.lookup e_answered_tags = some ⟨.type "tuple", od_answered_tags, .seq #[] nn_answered_tags, sl_answered_tags⟩)
    {e_answered_ground : Addr}
    (y_answered_ground : PySem.W.nsIn K D27 "ground" = some (some (.ref e_answered_ground)))
    {od_answered_ground : Option Addr} {nn_answered_ground : Nat} {sl_answered_ground : Array (Option Value)} (ye_answered_ground : K.lookup e_answered_ground = some ⟨.type "tuple", od_answered_ground, .seq #[] nn_answered_ground, sl_answered_ground⟩)
    {f28 : Addr} {od28 an28 : Option Addr} {sl28 : Array (Option Value)} {oc28 kV28 dc28 pm28 cd28 ct28 : Value}
    (a28 : PySem.W.nsIn K mainGlobals "_law_well" = some (some (.ref f28)))
    (l28 : K.lookup f28 = some ⟨oc28, od28, .func (PySem.W.fnOf "_law_well" "_law_well" (defArgs s_law_well) (defBody s_law_well) (defScope s_law_well) .none kV28 dc28 pm28 an28 cd28 ct28), sl28⟩) (c28 : PySem.W.codeIn K cd28 "_law_well" = true) (k28 : PySem.W.keepIn K (.ref f28) = true)
    {f29 : Addr} {od29 an29 : Option Addr} {sl29 : Array (Option Value)} {oc29 kV29 dc29 pm29 cd29 ct29 : Value}
    (a29 : PySem.W.nsIn K mainGlobals "_law_draw" = some (some (.ref f29)))
    (l29 : K.lookup f29 = some ⟨oc29, od29, .func (PySem.W.fnOf "_law_draw" "_law_draw" (defArgs s_law_draw) (defBody s_law_draw) (defScope s_law_draw) .none kV29 dc29 pm29 an29 cd29 ct29), sl29⟩) (c29 : PySem.W.codeIn K cd29 "_law_draw" = true) (k29 : PySem.W.keepIn K (.ref f29) = true)
    {f30 : Addr} {od30 an30 : Option Addr} {sl30 : Array (Option Value)} {oc30 kV30 dc30 pm30 cd30 ct30 : Value}
    (a30 : PySem.W.nsIn K mainGlobals "_law_text" = some (some (.ref f30)))
    (l30 : K.lookup f30 = some ⟨oc30, od30, .func (PySem.W.fnOf "_law_text" "_law_text" (defArgs s_law_text) (defBody s_law_text) (defScope s_law_text) .none kV30 dc30 pm30 an30 cd30 ct30), sl30⟩) (c30 : PySem.W.codeIn K cd30 "_law_text" = true) (k30 : PySem.W.keepIn K (.ref f30) = true)
    {f31 : Addr} {od31 an31 : Option Addr} {sl31 : Array (Option Value)} {oc31 kV31 dc31 pm31 cd31 ct31 : Value}
    (a31 : PySem.W.nsIn K mainGlobals "_law_span" = some (some (.ref f31)))
    (l31 : K.lookup f31 = some ⟨oc31, od31, .func (PySem.W.fnOf "_law_span" "_law_span" (defArgs s_law_span) (defBody s_law_span) (defScope s_law_span) .none kV31 dc31 pm31 an31 cd31 ct31), sl31⟩) (c31 : PySem.W.codeIn K cd31 "_law_span" = true) (k31 : PySem.W.keepIn K (.ref f31) = true)
    {f32 : Addr} {od32 an32 : Option Addr} {sl32 : Array (Option Value)} {oc32 kV32 dc32 pm32 cd32 ct32 : Value}
    (a32 : PySem.W.nsIn K mainGlobals "_law_mark" = some (some (.ref f32)))
    (l32 : K.lookup f32 = some ⟨oc32, od32, .func (PySem.W.fnOf "_law_mark" "_law_mark" (defArgs s_law_mark) (defBody s_law_mark) (defScope s_law_mark) .none kV32 dc32 pm32 an32 cd32 ct32), sl32⟩) (c32 : PySem.W.codeIn K cd32 "_law_mark" = true) (k32 : PySem.W.keepIn K (.ref f32) = true)
    {f33 : Addr} {od33 an33 : Option Addr} {sl33 : Array (Option Value)} {oc33 kV33 dc33 pm33 cd33 ct33 : Value}
    (a33 : PySem.W.nsIn K mainGlobals "_law_is_told" = some (some (.ref f33)))
    (l33 : K.lookup f33 = some ⟨oc33, od33, .func (PySem.W.fnOf "_law_is_told" "_law_is_told" (defArgs s_law_is_told) (defBody s_law_is_told) (defScope s_law_is_told) .none kV33 dc33 pm33 an33 cd33 ct33), sl33⟩) (c33 : PySem.W.codeIn K cd33 "_law_is_told" = true) (k33 : PySem.W.keepIn K (.ref f33) = true)
    {f34 : Addr} {od34 an34 : Option Addr} {sl34 : Array (Option Value)} {oc34 kV34 dc34 pm34 cd34 ct34 : Value}
    (a34 : PySem.W.nsIn K mainGlobals "_law_wants_all" = some (some (.ref f34)))
    (l34 : K.lookup f34 = some ⟨oc34, od34, .func (PySem.W.fnOf "_law_wants_all" "_law_wants_all" (defArgs s_law_wants_all) (defBody s_law_wants_all) (defScope s_law_wants_all) .none kV34 dc34 pm34 an34 cd34 ct34), sl34⟩) (c34 : PySem.W.codeIn K cd34 "_law_wants_all" = true) (k34 : PySem.W.keepIn K (.ref f34) = true)
    {f35 : Addr} {od35 an35 : Option Addr} {sl35 : Array (Option Value)} {oc35 kV35 dc35 pm35 cd35 ct35 : Value}
    (a35 : PySem.W.nsIn K mainGlobals "_law_places" = some (some (.ref f35)))
    (l35 : K.lookup f35 = some ⟨oc35, od35, .func (PySem.W.fnOf "_law_places" "_law_places" (defArgs s_law_places) (defBody s_law_places) (defScope s_law_places) .none kV35 dc35 pm35 an35 cd35 ct35), sl35⟩) (c35 : PySem.W.codeIn K cd35 "_law_places" = true) (k35 : PySem.W.keepIn K (.ref f35) = true)
    {f36 : Addr} {od36 an36 : Option Addr} {sl36 : Array (Option Value)} {oc36 kV36 dc36 pm36 cd36 ct36 : Value}
    (a36 : PySem.W.nsIn K mainGlobals "_law_word" = some (some (.ref f36)))
    (l36 : K.lookup f36 = some ⟨oc36, od36, .func (PySem.W.fnOf "_law_word" "_law_word" (defArgs s_law_word) (defBody s_law_word) (defScope s_law_word) .none kV36 dc36 pm36 an36 cd36 ct36), sl36⟩) (c36 : PySem.W.codeIn K cd36 "_law_word" = true) (k36 : PySem.W.keepIn K (.ref f36) = true)
    {f37 : Addr} {od37 an37 : Option Addr} {sl37 : Array (Option Value)} {oc37 kV37 dc37 pm37 cd37 ct37 : Value}
    (a37 : PySem.W.nsIn K mainGlobals "_law_parts" = some (some (.ref f37)))
    (l37 : K.lookup f37 = some ⟨oc37, od37, .func (PySem.W.fnOf "_law_parts" "_law_parts" (defArgs s_law_parts) (defBody s_law_parts) (defScope s_law_parts) .none kV37 dc37 pm37 an37 cd37 ct37), sl37⟩) (c37 : PySem.W.codeIn K cd37 "_law_parts" = true) (k37 : PySem.W.keepIn K (.ref f37) = true)
    {f38 : Addr} {od38 an38 : Option Addr} {sl38 : Array (Option Value)} {oc38 kV38 dc38 pm38 cd38 ct38 : Value}
    (a38 : PySem.W.nsIn K mainGlobals "_law_known" = some (some (.ref f38)))
    (l38 : K.lookup f38 = some ⟨oc38, od38, .func (PySem.W.fnOf "_law_known" "_law_known" (defArgs s_law_known) (defBody s_law_known) (defScope s_law_known) .none kV38 dc38 pm38 an38 cd38 ct38), sl38⟩) (c38 : PySem.W.codeIn K cd38 "_law_known" = true) (k38 : PySem.W.keepIn K (.ref f38) = true)
    {f39 : Addr} {od39 an39 : Option Addr} {sl39 : Array (Option Value)} {oc39 kV39 dc39 pm39 cd39 ct39 : Value}
    (a39 : PySem.W.nsIn K mainGlobals "_law_plain" = some (some (.ref f39)))
    (l39 : K.lookup f39 = some ⟨oc39, od39, .func (PySem.W.fnOf "_law_plain" "_law_plain" (defArgs s_law_plain) (defBody s_law_plain) (defScope s_law_plain) .none kV39 dc39 pm39 an39 cd39 ct39), sl39⟩) (c39 : PySem.W.codeIn K cd39 "_law_plain" = true) (k39 : PySem.W.keepIn K (.ref f39) = true)
    {f40 : Addr} {od40 an40 : Option Addr} {sl40 : Array (Option Value)} {oc40 kV40 dc40 pm40 cd40 ct40 : Value}
    (a40 : PySem.W.nsIn K mainGlobals "_law_rest" = some (some (.ref f40)))
    (l40 : K.lookup f40 = some ⟨oc40, od40, .func (PySem.W.fnOf "_law_rest" "_law_rest" (defArgs s_law_rest) (defBody s_law_rest) (defScope s_law_rest) .none kV40 dc40 pm40 an40 cd40 ct40), sl40⟩) (c40 : PySem.W.codeIn K cd40 "_law_rest" = true) (k40 : PySem.W.keepIn K (.ref f40) = true)
    {f41 : Addr} {od41 an41 : Option Addr} {sl41 : Array (Option Value)} {oc41 kV41 dc41 pm41 cd41 ct41 : Value}
    (a41 : PySem.W.nsIn K mainGlobals "_law_case" = some (some (.ref f41)))
    (l41 : K.lookup f41 = some ⟨oc41, od41, .func (PySem.W.fnOf "_law_case" "_law_case" (defArgs s_law_case) (defBody s_law_case) (defScope s_law_case) .none kV41 dc41 pm41 an41 cd41 ct41), sl41⟩) (c41 : PySem.W.codeIn K cd41 "_law_case" = true) (k41 : PySem.W.keepIn K (.ref f41) = true)
    {f42 : Addr} {od42 an42 : Option Addr} {sl42 : Array (Option Value)} {oc42 kV42 dc42 pm42 cd42 ct42 : Value}
    (a42 : PySem.W.nsIn K mainGlobals "law" = some (some (.ref f42)))
    (l42 : K.lookup f42 = some ⟨oc42, od42, .func (PySem.W.fnOf "law" "law" (defArgs s_law) (defBody s_law) (defScope s_law) .none kV42 dc42 pm42 an42 cd42 ct42), sl42⟩) (c42 : PySem.W.codeIn K cd42 "law" = true) (k42 : PySem.W.keepIn K (.ref f42) = true)
    {f43 : Addr} {od43 an43 : Option Addr} {sl43 : Array (Option Value)} {oc43 kV43 dc43 pm43 cd43 ct43 : Value}
    (a43_NoWish : PySem.W.findIn K (.ref C_NoWish) "__init__" = some (some (.ref f43)))
    (i43 : PySem.W.isFn K (.ref f43) = true)
    (ty43 : PySem.W.typeIn K (.ref f43) = some (.type "function"))
    (l43 : K.lookup f43 = some ⟨oc43, od43, .func (PySem.W.fnOf "__init__" "NoWish.__init__" (defArgs s_NoWish_init) (defBody s_NoWish_init) (defScope s_NoWish_init) .none kV43 dc43 pm43 an43 cd43 ct43), sl43⟩) (c43 : PySem.W.codeIn K cd43 "NoWish.__init__" = true) (k43 : PySem.W.keepIn K (.ref f43) = true)
    {f44 : Addr} {od44 an44 : Option Addr} {sl44 : Array (Option Value)} {oc44 kV44 dc44 pm44 cd44 ct44 : Value}
    (a44_NoAsk : PySem.W.findIn K (.ref C_NoAsk) "__init__" = some (some (.ref f44)))
    (i44 : PySem.W.isFn K (.ref f44) = true)
    (ty44 : PySem.W.typeIn K (.ref f44) = some (.type "function"))
    (l44 : K.lookup f44 = some ⟨oc44, od44, .func (PySem.W.fnOf "__init__" "NoAsk.__init__" (defArgs s_NoAsk_init) (defBody s_NoAsk_init) (defScope s_NoAsk_init) .none kV44 dc44 pm44 an44 cd44 ct44), sl44⟩) (c44 : PySem.W.codeIn K cd44 "NoAsk.__init__" = true) (k44 : PySem.W.keepIn K (.ref f44) = true)
    {f45 : Addr} {od45 an45 : Option Addr} {sl45 : Array (Option Value)} {oc45 dc45 pm45 cd45 ct45 : Value} {D45 : Addr}
    (a45_Rule : PySem.W.findIn K (.ref C_Rule) "__init__" = some (some (.ref f45)))
    (i45 : PySem.W.isFn K (.ref f45) = true)
    (l45 : K.lookup f45 = some ⟨oc45, od45, .func (PySem.W.fnOf "__init__" "Rule.__init__" (defArgs s_Rule_init) (defBody s_Rule_init) (defScope s_Rule_init) .none (.ref D45) dc45 pm45 an45 cd45 ct45), sl45⟩) (c45 : PySem.W.codeIn K cd45 "Rule.__init__" = true) (k45 : PySem.W.keepIn K (.ref f45) = true)
    {tk_Rule_init_keep : Tok}
    (y_Rule_init_keep : PySem.W.nsIn K D45 "keep" = some (some (.int 0 tk_Rule_init_keep)))
    {tk_Rule_init_worn : Tok}
    (y_Rule_init_worn : PySem.W.nsIn K D45 "worn" = some (some (.int 0 tk_Rule_init_worn)))
    {tk_Rule_init_alone : Tok}
    (y_Rule_init_alone : PySem.W.nsIn K D45 "alone" = some (some (.int 0 tk_Rule_init_alone)))
    (y_Rule_init_anew : PySem.W.nsIn K D45 "anew" = some (some (.bool false)))
    (y_Rule_init_own : PySem.W.nsIn K D45 "own" = some (some (.bool false)))
    (y_Rule_init_common : PySem.W.nsIn K D45 "common" = some (some (.bool false)))
    (y_Rule_init_never : PySem.W.nsIn K D45 "never" = some (some (.bool false)))
    (y_Rule_init_strict : PySem.W.nsIn K D45 "strict" = some (some (.bool false)))
    {f46 : Addr} {od46 an46 : Option Addr} {sl46 : Array (Option Value)} {oc46 dc46 pm46 cd46 ct46 : Value} {D46 : Addr}
    (a46_Wish : PySem.W.findIn K (.ref C_Wish) "__init__" = some (some (.ref f46)))
    (i46 : PySem.W.isFn K (.ref f46) = true)
    (l46 : K.lookup f46 = some ⟨oc46, od46, .func (PySem.W.fnOf "__init__" "Wish.__init__" (defArgs s_Wish_init) (defBody s_Wish_init) (defScope s_Wish_init) .none (.ref D46) dc46 pm46 an46 cd46 ct46), sl46⟩) (c46 : PySem.W.codeIn K cd46 "Wish.__init__" = true) (k46 : PySem.W.keepIn K (.ref f46) = true)
    (y_Wish_init_atmost : PySem.W.nsIn K D46 "atmost" = some (some (.none)))
    {tk_Wish_init_left : Tok}
    (y_Wish_init_left : PySem.W.nsIn K D46 "left" = some (some (.int 0 tk_Wish_init_left)))
    {tk_Wish_init_worn : Tok}
    (y_Wish_init_worn : PySem.W.nsIn K D46 "worn" = some (some (.int 0 tk_Wish_init_worn)))
    (y_Wish_init_anew : PySem.W.nsIn K D46 "anew" = some (some (.bool false)))
    (y_Wish_init_kept : PySem.W.nsIn K D46 "kept" = some (some (.bool false)))
    (y_Wish_init_firm : PySem.W.nsIn K D46 "firm" = some (some (.bool false)))
    {f47 : Addr} {od47 an47 : Option Addr} {sl47 : Array (Option Value)} {oc47 kV47 dc47 pm47 cd47 ct47 : Value}
    (a47_Wish : PySem.W.findIn K (.ref C_Wish) "spelled" = some (some (.ref f47)))
    (i47 : PySem.W.isFn K (.ref f47) = true)
    (l47 : K.lookup f47 = some ⟨oc47, od47, .func (PySem.W.fnOf "spelled" "Wish.spelled" (defArgs s_Wish_spelled) (defBody s_Wish_spelled) (defScope s_Wish_spelled) .none kV47 dc47 pm47 an47 cd47 ct47), sl47⟩) (c47 : PySem.W.codeIn K cd47 "Wish.spelled" = true) (k47 : PySem.W.keepIn K (.ref f47) = true)
    {f48 : Addr} {od48 an48 : Option Addr} {sl48 : Array (Option Value)} {oc48 dc48 pm48 cd48 ct48 : Value} {D48 : Addr}
    (a48_Ask : PySem.W.findIn K (.ref C_Ask) "__init__" = some (some (.ref f48)))
    (i48 : PySem.W.isFn K (.ref f48) = true)
    (l48 : K.lookup f48 = some ⟨oc48, od48, .func (PySem.W.fnOf "__init__" "Ask.__init__" (defArgs s_Ask_init) (defBody s_Ask_init) (defScope s_Ask_init) .none (.ref D48) dc48 pm48 an48 cd48 ct48), sl48⟩) (c48 : PySem.W.codeIn K cd48 "Ask.__init__" = true) (k48 : PySem.W.keepIn K (.ref f48) = true)
    (y_Ask_init_heads : PySem.W.nsIn K D48 "heads" = some (some (.none)))
    {e_Ask_init_spans : Addr}
    (y_Ask_init_spans : PySem.W.nsIn K D48 "spans" = some (some (.ref e_Ask_init_spans)))
    {od_Ask_init_spans : Option Addr} {nn_Ask_init_spans : Nat} {sl_Ask_init_spans : Array (Option Value)} (ye_Ask_init_spans : K.lookup e_Ask_init_spans = some ⟨.type "tuple", od_Ask_init_spans, .seq #[] nn_Ask_init_spans, sl_Ask_init_spans⟩)
    {e_Ask_init_unless : Addr}
    (y_Ask_init_unless : PySem.W.nsIn K D48 "unless" = some (some (.ref e_Ask_init_unless)))
    {od_Ask_init_unless : Option Addr} {nn_Ask_init_unless : Nat} {sl_Ask_init_unless : Array (Option Value)} (ye_Ask_init_unless : K.lookup e_Ask_init_unless = some ⟨.type "tuple", od_Ask_init_unless, .seq #[] nn_Ask_init_unless, sl_Ask_init_unless⟩)
    (y_Ask_init_when : PySem.W.nsIn K D48 "when" = some (some (.none)))
    {tk_Ask_init_wish : Tok}
    (y_Ask_init_wish : PySem.W.nsIn K D48 "wish" = some (some (.str "" tk_Ask_init_wish)))
    {f49 : Addr} {od49 an49 : Option Addr} {sl49 : Array (Option Value)} {oc49 kV49 dc49 pm49 cd49 ct49 : Value}
    (a49_Ask : PySem.W.findIn K (.ref C_Ask) "told" = some (some (.ref f49)))
    (i49 : PySem.W.isFn K (.ref f49) = true)
    (l49 : K.lookup f49 = some ⟨oc49, od49, .func (PySem.W.fnOf "told" "Ask.told" (defArgs s_Ask_told) (defBody s_Ask_told) (defScope s_Ask_told) .none kV49 dc49 pm49 an49 cd49 ct49), sl49⟩) (c49 : PySem.W.codeIn K cd49 "Ask.told" = true) (k49 : PySem.W.keepIn K (.ref f49) = true)
    {f50 : Addr} {od50 an50 : Option Addr} {sl50 : Array (Option Value)} {oc50 kV50 dc50 pm50 cd50 ct50 : Value}
    (a50_Ask : PySem.W.findIn K (.ref C_Ask) "wants_whole" = some (some (.ref f50)))
    (i50 : PySem.W.isFn K (.ref f50) = true)
    (l50 : K.lookup f50 = some ⟨oc50, od50, .func (PySem.W.fnOf "wants_whole" "Ask.wants_whole" (defArgs s_Ask_wants_whole) (defBody s_Ask_wants_whole) (defScope s_Ask_wants_whole) .none kV50 dc50 pm50 an50 cd50 ct50), sl50⟩) (c50 : PySem.W.codeIn K cd50 "Ask.wants_whole" = true) (k50 : PySem.W.keepIn K (.ref f50) = true)
    {f51 : Addr} {od51 an51 : Option Addr} {sl51 : Array (Option Value)} {oc51 kV51 dc51 pm51 cd51 ct51 : Value}
    (a51_Ask : PySem.W.findIn K (.ref C_Ask) "wanted" = some (some (.ref f51)))
    (i51 : PySem.W.isFn K (.ref f51) = true)
    (l51 : K.lookup f51 = some ⟨oc51, od51, .func (PySem.W.fnOf "wanted" "Ask.wanted" (defArgs s_Ask_wanted) (defBody s_Ask_wanted) (defScope s_Ask_wanted) .none kV51 dc51 pm51 an51 cd51 ct51), sl51⟩) (c51 : PySem.W.codeIn K cd51 "Ask.wanted" = true) (k51 : PySem.W.keepIn K (.ref f51) = true)
    {f52 : Addr} {od52 an52 : Option Addr} {sl52 : Array (Option Value)} {oc52 kV52 dc52 pm52 cd52 ct52 : Value}
    (a52_Ask : PySem.W.findIn K (.ref C_Ask) "word_for" = some (some (.ref f52)))
    (i52 : PySem.W.isFn K (.ref f52) = true)
    (l52 : K.lookup f52 = some ⟨oc52, od52, .func (PySem.W.fnOf "word_for" "Ask.word_for" (defArgs s_Ask_word_for) (defBody s_Ask_word_for) (defScope s_Ask_word_for) .none kV52 dc52 pm52 an52 cd52 ct52), sl52⟩) (c52 : PySem.W.codeIn K cd52 "Ask.word_for" = true) (k52 : PySem.W.keepIn K (.ref f52) = true)
    {f53 : Addr} {od53 an53 : Option Addr} {sl53 : Array (Option Value)} {oc53 dc53 pm53 cd53 ct53 : Value} {D53 : Addr}
    (a53_Answer : PySem.W.findIn K (.ref C_Answer) "__init__" = some (some (.ref f53)))
    (i53 : PySem.W.isFn K (.ref f53) = true)
    (l53 : K.lookup f53 = some ⟨oc53, od53, .func (PySem.W.fnOf "__init__" "Answer.__init__" (defArgs s_Answer_init) (defBody s_Answer_init) (defScope s_Answer_init) .none (.ref D53) dc53 pm53 an53 cd53 ct53), sl53⟩) (c53 : PySem.W.codeIn K cd53 "Answer.__init__" = true) (k53 : PySem.W.keepIn K (.ref f53) = true)
    (y_Answer_init_mark : PySem.W.nsIn K D53 "mark" = some (some (.none)))
    {tk_Answer_init_size : Tok}
    (y_Answer_init_size : PySem.W.nsIn K D53 "size" = some (some (.int 0 tk_Answer_init_size)))
    {e_Answer_init_parts : Addr}
    (y_Answer_init_parts : PySem.W.nsIn K D53 "parts" = some (some (.ref e_Answer_init_parts)))
    {od_Answer_init_parts : Option Addr} {nn_Answer_init_parts : Nat} {sl_Answer_init_parts : Array (Option Value)} (ye_Answer_init_parts : K.lookup e_Answer_init_parts = some ⟨.type "tuple", od_Answer_init_parts, .seq #[] nn_Answer_init_parts, sl_Answer_init_parts⟩)
    {tk_Answer_init_age : Tok}
    (y_Answer_init_age : PySem.W.nsIn K D53 "age" = some (some (.int 0 tk_Answer_init_age)))
    {tk_Answer_init_count : Tok}
    (y_Answer_init_count : PySem.W.nsIn K D53 "count" = some (some (.int 0 tk_Answer_init_count)))
    (y_Answer_init_rule : PySem.W.nsIn K D53 "rule" = some (some (.none)))
    {e_Answer_init_turns : Addr}
    (y_Answer_init_turns : PySem.W.nsIn K D53 "turns" = some (some (.ref e_Answer_init_turns)))
    {od_Answer_init_turns : Option Addr} {nn_Answer_init_turns : Nat} {sl_Answer_init_turns : Array (Option Value)} (ye_Answer_init_turns : K.lookup e_Answer_init_turns = some ⟨.type "tuple", od_Answer_init_turns, .seq #[] nn_Answer_init_turns, sl_Answer_init_turns⟩)
    {e_Answer_init_tags : Addr}
    (y_Answer_init_tags : PySem.W.nsIn K D53 "tags" = some (some (.ref e_Answer_init_tags)))
    {od_Answer_init_tags : Option Addr} {nn_Answer_init_tags : Nat} {sl_Answer_init_tags : Array (Option Value)} (ye_Answer_init_tags : K.lookup e_Answer_init_tags = some ⟨.type "tuple", od_Answer_init_tags, .seq #[] nn_Answer_init_tags, sl_Answer_init_tags⟩)
    {e_Answer_init_ground : Addr}
    (y_Answer_init_ground : PySem.W.nsIn K D53 "ground" = some (some (.ref e_Answer_init_ground)))
    {od_Answer_init_ground : Option Addr} {nn_Answer_init_ground : Nat} {sl_Answer_init_ground : Array (Option Value)} (ye_Answer_init_ground : K.lookup e_Answer_init_ground = some ⟨.type "tuple", od_Answer_init_ground, .seq #[] nn_Answer_init_ground, sl_Answer_init_ground⟩)
    {f54 : Addr} {od54 an54 : Option Addr} {sl54 : Array (Option Value)} {oc54 kV54 dc54 pm54 cd54 ct54 : Value}
    (a54_Answer : PySem.W.findIn K (.ref C_Answer) "told" = some (some (.ref f54)))
    (i54 : PySem.W.isFn K (.ref f54) = true)
    (l54 : K.lookup f54 = some ⟨oc54, od54, .func (PySem.W.fnOf "told" "Answer.told" (defArgs s_Answer_told) (defBody s_Answer_told) (defScope s_Answer_told) .none kV54 dc54 pm54 an54 cd54 ct54), sl54⟩) (c54 : PySem.W.codeIn K cd54 "Answer.told" = true) (k54 : PySem.W.keepIn K (.ref f54) = true)
    {t_LETTERS : Tok} (x_LETTERS : PySem.W.nsIn K mainGlobals "LETTERS" = some (some (.str "abcdefghijklmnopqrstuvwxyz" t_LETTERS)))
    {t_FIGURES : Tok} (x_FIGURES : PySem.W.nsIn K mainGlobals "FIGURES" = some (some (.str "0123456789" t_FIGURES)))
    {t_WORTH_SIGNS : Tok} (x_WORTH_SIGNS : PySem.W.nsIn K mainGlobals "WORTH_SIGNS" = some (some (.str "abcdefghijklmnopqrstuvwxyz0123456789-" t_WORTH_SIGNS)))
    {t_LONGEST_NAME : Tok} (x_LONGEST_NAME : PySem.W.nsIn K mainGlobals "LONGEST_NAME" = some (some (.int 8 t_LONGEST_NAME)))
    {t_LONGEST_WORTH : Tok} (x_LONGEST_WORTH : PySem.W.nsIn K mainGlobals "LONGEST_WORTH" = some (some (.int 12 t_LONGEST_WORTH)))
    {t_MOST_NAMES : Tok} (x_MOST_NAMES : PySem.W.nsIn K mainGlobals "MOST_NAMES" = some (some (.int 4 t_MOST_NAMES)))
    {t_MOST_FIGURES : Tok} (x_MOST_FIGURES : PySem.W.nsIn K mainGlobals "MOST_FIGURES" = some (some (.int 60 t_MOST_FIGURES)))
    {a_WISH_NUMBERS : Addr} {tt_WISH_NUMBERS_0 tt_WISH_NUMBERS_1 tt_WISH_NUMBERS_2 : Tok} {od_WISH_NUMBERS : Option Addr} {nn_WISH_NUMBERS : Nat} {sl_WISH_NUMBERS : Array (Option Value)} (x_WISH_NUMBERS : PySem.W.nsIn K mainGlobals "WISH_NUMBERS" = some (some (.ref a_WISH_NUMBERS))) (y_WISH_NUMBERS : K.lookup a_WISH_NUMBERS = some ⟨.type "tuple", od_WISH_NUMBERS, .seq #[.str "atmost" tt_WISH_NUMBERS_0, .str "left" tt_WISH_NUMBERS_1, .str "worn" tt_WISH_NUMBERS_2] nn_WISH_NUMBERS, sl_WISH_NUMBERS⟩)
    {a_WISH_TRUTHS : Addr} {tt_WISH_TRUTHS_0 tt_WISH_TRUTHS_1 tt_WISH_TRUTHS_2 : Tok} {od_WISH_TRUTHS : Option Addr} {nn_WISH_TRUTHS : Nat} {sl_WISH_TRUTHS : Array (Option Value)} (x_WISH_TRUTHS : PySem.W.nsIn K mainGlobals "WISH_TRUTHS" = some (some (.ref a_WISH_TRUTHS))) (y_WISH_TRUTHS : K.lookup a_WISH_TRUTHS = some ⟨.type "tuple", od_WISH_TRUTHS, .seq #[.str "anew" tt_WISH_TRUTHS_0, .str "kept" tt_WISH_TRUTHS_1, .str "firm" tt_WISH_TRUTHS_2] nn_WISH_TRUTHS, sl_WISH_TRUTHS⟩)
    {a_BEARS_PARTS : Addr} {tt_BEARS_PARTS_0 tt_BEARS_PARTS_1 : Tok} {od_BEARS_PARTS : Option Addr} {nn_BEARS_PARTS : Nat} {sl_BEARS_PARTS : Array (Option Value)} (x_BEARS_PARTS : PySem.W.nsIn K mainGlobals "BEARS_PARTS" = some (some (.ref a_BEARS_PARTS))) (y_BEARS_PARTS : K.lookup a_BEARS_PARTS = some ⟨.type "tuple", od_BEARS_PARTS, .seq #[.str "whole" tt_BEARS_PARTS_0, .str "part" tt_BEARS_PARTS_1] nn_BEARS_PARTS, sl_BEARS_PARTS⟩)
    (z_all : PySem.W.nsIn K mainGlobals "all" = some none)
    (z_any : PySem.W.nsIn K mainGlobals "any" = some none)
    (z_bool : PySem.W.nsIn K mainGlobals "bool" = some none)
    (z_enumerate : PySem.W.nsIn K mainGlobals "enumerate" = some none)
    (z_int : PySem.W.nsIn K mainGlobals "int" = some none)
    (z_isinstance : PySem.W.nsIn K mainGlobals "isinstance" = some none)
    (z_len : PySem.W.nsIn K mainGlobals "len" = some none)
    (z_list : PySem.W.nsIn K mainGlobals "list" = some none)
    (z_max : PySem.W.nsIn K mainGlobals "max" = some none)
    (z_min : PySem.W.nsIn K mainGlobals "min" = some none)
    (z_range : PySem.W.nsIn K mainGlobals "range" = some none)
    (z_sorted : PySem.W.nsIn K mainGlobals "sorted" = some none)
    (z_str : PySem.W.nsIn K mainGlobals "str" = some none)
    (z_tuple : PySem.W.nsIn K mainGlobals "tuple" = some none)
    : ∃ fd : FuncData, (∀ (s : Shared) (v : Value), BindsTo s fd ⟨[v], []⟩ [("_law_script", v)]) ∧ ∀ base : Heap, K.In base → base.Ns mainGlobals mg → FnOk l.prog w K mg base CX0 8 fa fd ["_law_script"] (spLaw K) := by
  have e := hfa.symm.trans (PySem.W.mg_of X G a42)
  cases e
  have F0 := fun_mk (st := s_is_whole) l0 c0 k0
  have F1 := fun_mk (st := s_is_made_of) l1 c1 k1
  have F2 := fun_mk (st := s_is_name) l2 c2 k2
  have F3 := fun_mk (st := s_is_worth) l3 c3 k3
  have F4 := fun_mk (st := s_is_path) l4 c4 k4
  have F5 := fun_mk (st := s_is_figures) l5 c5 k5
  have F6 := fun_mk (st := s_is_mark) l6 c6 k6
  have F7 := fun_mk (st := s_is_strong) l7 c7 k7
  have F8 := fun_mk (st := s_heads_row) l8 c8 k8
  have F9 := fun_mk (st := s_in_words) l9 c9 k9
  have F10 := fun_mk (st := s_read_wish) l10 c10 k10
  have F11 := fun_mk (st := s_words_told) l11 c11 k11
  have F12 := fun_mk (st := s_word_told) l12 c12 k12
  have F13 := fun_mk (st := s_first_wrong) l13 c13 k13
  have F14 := fun_mk (st := s_suits_its_name) l14 c14 k14
  have F15 := fun_mk (st := s_numbers_told) l15 c15 k15
  have F16 := fun_mk (st := s_is_told) l16 c16 k16
  have F17 := fun_mk (st := s_are_ends) l17 c17 k17
  have F18 := fun_mk (st := s_is_span) l18 c18 k18
  have F19 := fun_mk (st := s_is_bound) l19 c19 k19
  have F20 := fun_mk (st := s_stretches) l20 c20 k20
  have F21 := fun_mk (st := s_within) l21 c21 k21
  have F22 := fun_mk (st := s_merged) l22 c22 k22
  have F23 := fun_mk (st := s_told_by) l23 c23 k23
  have F24 := fun_mk (st := s_meetings) l24 c24 k24
  have F25 := fun_mk (st := s_cut) l25 c25 k25
  have F26 := fun_mk (st := s_wrong_in_ask) l26 c26 k26
  have F27 := fun_mk (st := s_answered) l27 c27 k27
  have FK27 : FunD K "answered" "answered" (defArgs s_answered) (defBody s_answered) (defScope s_answered) [] ([("age", .int 0), ("count", .int 0), ("rule", .non), ("turns", .ref e_answered_turns), ("tags", .ref e_answered_tags), ("ground", .ref e_answered_ground)] : List (Str × V)) f27 _ := ⟨⟨_, _, _, _, _, _, _, _, _, _, rfl, l27, c27, .inl ⟨rfl, rfl⟩, .inr ⟨_, rfl, (List.forall_mem_cons.mpr ⟨⟨_, y_answered_age, ⟨_, rfl⟩⟩, (List.forall_mem_cons.mpr ⟨⟨_, y_answered_count, ⟨_, rfl⟩⟩, (List.forall_mem_cons.mpr ⟨⟨_, y_answered_rule, rfl⟩, (List.forall_mem_cons.mpr ⟨⟨_, y_answered_turns, rfl⟩, (List.forall_mem_cons.mpr ⟨⟨_, y_answered_tags, rfl⟩, (List.forall_mem_cons.mpr ⟨⟨_, y_answered_ground, rfl⟩, (fun _ h => nomatch h)⟩)⟩)⟩)⟩)⟩)⟩)⟩⟩, k27⟩
  have F28 := fun_mk (st := s_law_well) l28 c28 k28
  have F29 := fun_mk (st := s_law_draw) l29 c29 k29
  have F30 := fun_mk (st := s_law_text) l30 c30 k30
  have F31 := fun_mk (st := s_law_span) l31 c31 k31
  have F32 := fun_mk (st := s_law_mark) l32 c32 k32
  have F33 := fun_mk (st := s_law_is_told) l33 c33 k33
  have F34 := fun_mk (st := s_law_wants_all) l34 c34 k34
  have F35 := fun_mk (st := s_law_places) l35 c35 k35
  have F36 := fun_mk (st := s_law_word) l36 c36 k36
  have F37 := fun_mk (st := s_law_parts) l37 c37 k37
  have F38 := fun_mk (st := s_law_known) l38 c38 k38
  have F39 := fun_mk (st := s_law_plain) l39 c39 k39
  have F40 := fun_mk (st := s_law_rest) l40 c40 k40
  have F41 := fun_mk (st := s_law_case) l41 c41 k41
  have F42 := fun_mk (st := s_law) l42 c42 k42
  have F43 := fun_mk (st := s_NoWish_init) l43 c43 k43
  have F44 := fun_mk (st := s_NoAsk_init) l44 c44 k44
  have F45 := fun_mk (st := s_Rule_init) l45 c45 k45
  have FK45 : FunD K "__init__" "Rule.__init__" (defArgs s_Rule_init) (defBody s_Rule_init) (defScope s_Rule_init) [] ([("keep", .int 0), ("worn", .int 0), ("alone", .int 0), ("anew", .bl false), ("own", .bl false), ("common", .bl false), ("never", .bl false), ("strict", .bl false)] : List (Str × V)) f45 _ := ⟨⟨_, _, _, _, _, _, _, _, _, _, rfl, l45, c45, .inl ⟨rfl, rfl⟩, .inr ⟨_, rfl, (List.forall_mem_cons.mpr ⟨⟨_, y_Rule_init_keep, ⟨_, rfl⟩⟩, (List.forall_mem_cons.mpr ⟨⟨_, y_Rule_init_worn, ⟨_, rfl⟩⟩, (List.forall_mem_cons.mpr ⟨⟨_, y_Rule_init_alone, ⟨_, rfl⟩⟩, (List.forall_mem_cons.mpr ⟨⟨_, y_Rule_init_anew, rfl⟩, (List.forall_mem_cons.mpr ⟨⟨_, y_Rule_init_own, rfl⟩, (List.forall_mem_cons.mpr ⟨⟨_, y_Rule_init_common, rfl⟩, (List.forall_mem_cons.mpr ⟨⟨_, y_Rule_init_never, rfl⟩, (List.forall_mem_cons.mpr ⟨⟨_, y_Rule_init_strict, rfl⟩, (fun _ h => nomatch h)⟩)⟩)⟩)⟩)⟩)⟩)⟩)⟩)⟩⟩, k45⟩
  have F46 := fun_mk (st := s_Wish_init) l46 c46 k46
  have FK46 : FunD K "__init__" "Wish.__init__" (defArgs s_Wish_init) (defBody s_Wish_init) (defScope s_Wish_init) [] ([("atmost", .non), ("left", .int 0), ("worn", .int 0), ("anew", .bl false), ("kept", .bl false), ("firm", .bl false)] : List (Str × V)) f46 _ := ⟨⟨_, _, _, _, _, _, _, _, _, _, rfl, l46, c46, .inl ⟨rfl, rfl⟩, .inr ⟨_, rfl, (List.forall_mem_cons.mpr ⟨⟨_, y_Wish_init_atmost, rfl⟩, (List.forall_mem_cons.mpr ⟨⟨_, y_Wish_init_left, ⟨_, rfl⟩⟩, (List.forall_mem_cons.mpr ⟨⟨_, y_Wish_init_worn, ⟨_, rfl⟩⟩, (List.forall_mem_cons.mpr ⟨⟨_, y_Wish_init_anew, rfl⟩, (List.forall_mem_cons.mpr ⟨⟨_, y_Wish_init_kept, rfl⟩, (List.forall_mem_cons.mpr ⟨⟨_, y_Wish_init_firm, rfl⟩, (fun _ h => nomatch h)⟩)⟩)⟩)⟩)⟩)⟩)⟩⟩, k46⟩
  have F47 := fun_mk (st := s_Wish_spelled) l47 c47 k47
  have F48 := fun_mk (st := s_Ask_init) l48 c48 k48
  have FK48 : FunD K "__init__" "Ask.__init__" (defArgs s_Ask_init) (defBody s_Ask_init) (defScope s_Ask_init) [] ([("heads", .non), ("spans", .ref e_Ask_init_spans), ("unless", .ref e_Ask_init_unless), ("when", .non), ("wish", .str "")] : List (Str × V)) f48 _ := ⟨⟨_, _, _, _, _, _, _, _, _, _, rfl, l48, c48, .inl ⟨rfl, rfl⟩, .inr ⟨_, rfl, (List.forall_mem_cons.mpr ⟨⟨_, y_Ask_init_heads, rfl⟩, (List.forall_mem_cons.mpr ⟨⟨_, y_Ask_init_spans, rfl⟩, (List.forall_mem_cons.mpr ⟨⟨_, y_Ask_init_unless, rfl⟩, (List.forall_mem_cons.mpr ⟨⟨_, y_Ask_init_when, rfl⟩, (List.forall_mem_cons.mpr ⟨⟨_, y_Ask_init_wish, ⟨_, rfl⟩⟩, (fun _ h => nomatch h)⟩)⟩)⟩)⟩)⟩)⟩⟩, k48⟩
  have F49 := fun_mk (st := s_Ask_told) l49 c49 k49
  have F50 := fun_mk (st := s_Ask_wants_whole) l50 c50 k50
  have F51 := fun_mk (st := s_Ask_wanted) l51 c51 k51
  have F52 := fun_mk (st := s_Ask_word_for) l52 c52 k52
  have F53 := fun_mk (st := s_Answer_init) l53 c53 k53
  have FK53 : FunD K "__init__" "Answer.__init__" (defArgs s_Answer_init) (defBody s_Answer_init) (defScope s_Answer_init) [] ([("mark", .non), ("size", .int 0), ("parts", .ref e_Answer_init_parts), ("age", .int 0), ("count", .int 0), ("rule", .non), ("turns", .ref e_Answer_init_turns), ("tags", .ref e_Answer_init_tags), ("ground", .ref e_Answer_init_ground)] : List (Str × V)) f53 _ := ⟨⟨_, _, _, _, _, _, _, _, _, _, rfl, l53, c53, .inl ⟨rfl, rfl⟩, .inr ⟨_, rfl, (List.forall_mem_cons.mpr ⟨⟨_, y_Answer_init_mark, rfl⟩, (List.forall_mem_cons.mpr ⟨⟨_, y_Answer_init_size, ⟨_, rfl⟩⟩, (List.forall_mem_cons.mpr ⟨⟨_, y_Answer_init_parts, rfl⟩, (List.forall_mem_cons.mpr ⟨⟨_, y_Answer_init_age, ⟨_, rfl⟩⟩, (List.forall_mem_cons.mpr ⟨⟨_, y_Answer_init_count, ⟨_, rfl⟩⟩, (List.forall_mem_cons.mpr ⟨⟨_, y_Answer_init_rule, rfl⟩, (List.forall_mem_cons.mpr ⟨⟨_, y_Answer_init_turns, rfl⟩, (List.forall_mem_cons.mpr ⟨⟨_, y_Answer_init_tags, rfl⟩, (List.forall_mem_cons.mpr ⟨⟨_, y_Answer_init_ground, rfl⟩, (fun _ h => nomatch h)⟩)⟩)⟩)⟩)⟩)⟩)⟩)⟩)⟩)⟩⟩, k53⟩
  have F54 := fun_mk (st := s_Answer_told) l54 c54 k54
  let T : Txt K mg := {
    f_is_whole := f0, fd_is_whole := _, d_is_whole := ⟨F0, F0.binds (ps := ["thing"]) (fun _ _ _ _ _ _ us hl => match us, hl with | [_], _ => rfl), PySem.W.mg_of X G a0⟩,
    f_is_made_of := f1, fd_is_made_of := _, d_is_made_of := ⟨F1, F1.binds (ps := ["text", "signs", "least", "most"]) (fun _ _ _ _ _ _ us hl => match us, hl with | [_, _, _, _], _ => rfl), PySem.W.mg_of X G a1⟩,
    f_is_name := f2, fd_is_name := _, d_is_name := ⟨F2, F2.binds (ps := ["text"]) (fun _ _ _ _ _ _ us hl => match us, hl with | [_], _ => rfl), PySem.W.mg_of X G a2⟩,
    f_is_worth := f3, fd_is_worth := _, d_is_worth := ⟨F3, F3.binds (ps := ["text"]) (fun _ _ _ _ _ _ us hl => match us, hl with | [_], _ => rfl), PySem.W.mg_of X G a3⟩,
    f_is_path := f4, fd_is_path := _, d_is_path := ⟨F4, F4.binds (ps := ["text"]) (fun _ _ _ _ _ _ us hl => match us, hl with | [_], _ => rfl), PySem.W.mg_of X G a4⟩,
    f_is_figures := f5, fd_is_figures := _, d_is_figures := ⟨F5, F5.binds (ps := ["text"]) (fun _ _ _ _ _ _ us hl => match us, hl with | [_], _ => rfl), PySem.W.mg_of X G a5⟩,
    f_is_mark := f6, fd_is_mark := _, d_is_mark := ⟨F6, F6.binds (ps := ["text"]) (fun _ _ _ _ _ _ us hl => match us, hl with | [_], _ => rfl), PySem.W.mg_of X G a6⟩,
    f_is_strong := f7, fd_is_strong := _, d_is_strong := ⟨F7, F7.binds (ps := ["mark"]) (fun _ _ _ _ _ _ us hl => match us, hl with | [_], _ => rfl), PySem.W.mg_of X G a7⟩,
    f_heads_row := f8, fd_heads_row := _, d_heads_row := ⟨F8, F8.binds (ps := ["heads"]) (fun _ _ _ _ _ _ us hl => match us, hl with | [_], _ => rfl), PySem.W.mg_of X G a8⟩,
    f_in_words := f9, fd_in_words := _, d_in_words := ⟨F9, F9.binds (ps := ["numbers", "truths"]) (fun _ _ _ _ _ _ us hl => match us, hl with | [_, _], _ => rfl), PySem.W.mg_of X G a9⟩,
    f_read_wish := f10, fd_read_wish := _, d_read_wish := ⟨F10, F10.binds (ps := ["text"]) (fun _ _ _ _ _ _ us hl => match us, hl with | [_], _ => rfl), PySem.W.mg_of X G a10⟩,
    f_words_told := f11, fd_words_told := _, d_words_told := ⟨F11, F11.binds (ps := ["text"]) (fun _ _ _ _ _ _ us hl => match us, hl with | [_], _ => rfl), PySem.W.mg_of X G a11⟩,
    f_word_told := f12, fd_word_told := _, d_word_told := ⟨F12, F12.binds (ps := ["piece"]) (fun _ _ _ _ _ _ us hl => match us, hl with | [_], _ => rfl), PySem.W.mg_of X G a12⟩,
    f_first_wrong := f13, fd_first_wrong := _, d_first_wrong := ⟨F13, F13.binds (ps := ["words", "numbers", "truths"]) (fun _ _ _ _ _ _ us hl => match us, hl with | [_, _, _], _ => rfl), PySem.W.mg_of X G a13⟩,
    f_suits_its_name := f14, fd_suits_its_name := _, d_suits_its_name := ⟨F14, F14.binds (ps := ["word", "numbers", "truths"]) (fun _ _ _ _ _ _ us hl => match us, hl with | [_, _, _], _ => rfl), PySem.W.mg_of X G a14⟩,
    f_numbers_told := f15, fd_numbers_told := _, d_numbers_told := ⟨F15, F15.binds (ps := ["words", "name"]) (fun _ _ _ _ _ _ us hl => match us, hl with | [_, _], _ => rfl), PySem.W.mg_of X G a15⟩,
    f_is_told := f16, fd_is_told := _, d_is_told := ⟨F16, F16.binds (ps := ["words", "name"]) (fun _ _ _ _ _ _ us hl => match us, hl with | [_, _], _ => rfl), PySem.W.mg_of X G a16⟩,
    f_are_ends := f17, fd_are_ends := _, d_are_ends := ⟨F17, F17.binds (ps := ["start", "stop"]) (fun _ _ _ _ _ _ us hl => match us, hl with | [_, _], _ => rfl), PySem.W.mg_of X G a17⟩,
    f_is_span := f18, fd_is_span := _, d_is_span := ⟨F18, F18.binds (ps := ["thing"]) (fun _ _ _ _ _ _ us hl => match us, hl with | [_], _ => rfl), PySem.W.mg_of X G a18⟩,
    f_is_bound := f19, fd_is_bound := _, d_is_bound := ⟨F19, F19.binds (ps := ["thing"]) (fun _ _ _ _ _ _ us hl => match us, hl with | [_], _ => rfl), PySem.W.mg_of X G a19⟩,
    f_stretches := f20, fd_stretches := _, d_stretches := ⟨F20, F20.binds (ps := ["spans", "size"]) (fun _ _ _ _ _ _ us hl => match us, hl with | [_, _], _ => rfl), PySem.W.mg_of X G a20⟩,
    f_within := f21, fd_within := _, d_within := ⟨F21, F21.binds (ps := ["span", "size"]) (fun _ _ _ _ _ _ us hl => match us, hl with | [_, _], _ => rfl), PySem.W.mg_of X G a21⟩,
    f_merged := f22, fd_merged := _, d_merged := ⟨F22, F22.binds (ps := ["pairs"]) (fun _ _ _ _ _ _ us hl => match us, hl with | [_], _ => rfl), PySem.W.mg_of X G a22⟩,
    f_told_by := f23, fd_told_by := _, d_told_by := ⟨F23, F23.binds (ps := ["parts"]) (fun _ _ _ _ _ _ us hl => match us, hl with | [_], _ => rfl), PySem.W.mg_of X G a23⟩,
    f_meetings := f24, fd_meetings := _, d_meetings := ⟨F24, F24.binds (ps := ["ones", "others"]) (fun _ _ _ _ _ _ us hl => match us, hl with | [_, _], _ => rfl), PySem.W.mg_of X G a24⟩,
    f_cut := f25, fd_cut := _, d_cut := ⟨F25, F25.binds (ps := ["parts", "wanted"]) (fun _ _ _ _ _ _ us hl => match us, hl with | [_, _], _ => rfl), PySem.W.mg_of X G a25⟩,
    f_wrong_in_ask := f26, fd_wrong_in_ask := _, d_wrong_in_ask := ⟨F26, F26.binds (ps := ["path", "heads", "spans", "unless", "when"]) (fun _ _ _ _ _ _ us hl => match us, hl with | [_, _, _, _, _], _ => rfl), PySem.W.mg_of X G a26⟩,
    f_answered := f27, fd_answered := _, d_answered := ⟨F27, PySem.W.mg_of X G a27⟩,
    f_law_well := f28, fd_law_well := _, d_law_well := ⟨F28, F28.binds (ps := ["_law_cell"]) (fun _ _ _ _ _ _ us hl => match us, hl with | [_], _ => rfl), PySem.W.mg_of X G a28⟩,
    f_law_draw := f29, fd_law_draw := _, d_law_draw := ⟨F29, F29.binds (ps := ["_law_well_here", "_law_many"]) (fun _ _ _ _ _ _ us hl => match us, hl with | [_, _], _ => rfl), PySem.W.mg_of X G a29⟩,
    f_law_text := f30, fd_law_text := _, d_law_text := ⟨F30, F30.binds (ps := ["_law_well_here"]) (fun _ _ _ _ _ _ us hl => match us, hl with | [_], _ => rfl), PySem.W.mg_of X G a30⟩,
    f_law_span := f31, fd_law_span := _, d_law_span := ⟨F31, F31.binds (ps := ["_law_well_here", "_law_size"]) (fun _ _ _ _ _ _ us hl => match us, hl with | [_, _], _ => rfl), PySem.W.mg_of X G a31⟩,
    f_law_mark := f32, fd_law_mark := _, d_law_mark := ⟨F32, F32.binds (ps := ["_law_well_here"]) (fun _ _ _ _ _ _ us hl => match us, hl with | [_], _ => rfl), PySem.W.mg_of X G a32⟩,
    f_law_is_told := f33, fd_law_is_told := _, d_law_is_told := ⟨F33, F33.binds (ps := ["_law_span_here", "_law_place", "_law_size"]) (fun _ _ _ _ _ _ us hl => match us, hl with | [_, _, _], _ => rfl), PySem.W.mg_of X G a33⟩,
    f_law_wants_all := f34, fd_law_wants_all := _, d_law_wants_all := ⟨F34, F34.binds (ps := ["_law_case_here", "_law_mark_here"]) (fun _ _ _ _ _ _ us hl => match us, hl with | [_, _], _ => rfl), PySem.W.mg_of X G a34⟩,
    f_law_places := f35, fd_law_places := _, d_law_places := ⟨F35, F35.binds (ps := ["_law_case_here", "_law_mark_here", "_law_size"]) (fun _ _ _ _ _ _ us hl => match us, hl with | [_, _, _], _ => rfl), PySem.W.mg_of X G a35⟩,
    f_law_word := f36, fd_law_word := _, d_law_word := ⟨F36, F36.binds (ps := ["_law_case_here", "_law_mark_here", "_law_places_here"]) (fun _ _ _ _ _ _ us hl => match us, hl with | [_, _, _], _ => rfl), PySem.W.mg_of X G a36⟩,
    f_law_parts := f37, fd_law_parts := _, d_law_parts := ⟨F37, F37.binds (ps := ["_law_text_here", "_law_places_here"]) (fun _ _ _ _ _ _ us hl => match us, hl with | [_, _], _ => rfl), PySem.W.mg_of X G a37⟩,
    f_law_known := f38, fd_law_known := _, d_law_known := ⟨F38, F38.binds (ps := ["_law_well_here", "_law_places_here", "_law_size"]) (fun _ _ _ _ _ _ us hl => match us, hl with | [_, _, _], _ => rfl), PySem.W.mg_of X G a38⟩,
    f_law_plain := f39, fd_law_plain := _, d_law_plain := ⟨F39, F39.binds (ps := ["_law_found", "_law_due"]) (fun _ _ _ _ _ _ us hl => match us, hl with | [_, _], _ => rfl), PySem.W.mg_of X G a39⟩,
    f_law_rest := f40, fd_law_rest := _, d_law_rest := ⟨F40, F40.binds (ps := ["_law_found"]) (fun _ _ _ _ _ _ us hl => match us, hl with | [_], _ => rfl), PySem.W.mg_of X G a40⟩,
    f_law_case := f41, fd_law_case := _, d_law_case := ⟨F41, F41.binds (ps := ["_law_well_here", "_law_long", "_law_gone"]) (fun _ _ _ _ _ _ us hl => match us, hl with | [_, _, _], _ => rfl), PySem.W.mg_of X G a41⟩,
    f_law := fa, fd_law := _, d_law := ⟨F42, F42.binds (ps := ["_law_script"]) (fun _ _ _ _ _ _ us hl => match us, hl with | [_], _ => rfl), PySem.W.mg_of X G a42⟩,
    f_NoWish_init := f43, fd_NoWish_init := _, d_NoWish_init := ⟨F43, F43.binds (ps := ["self", "at"]) (fun _ _ _ _ _ _ us hl => match us, hl with | [_, _], _ => rfl)⟩,
    f_NoAsk_init := f44, fd_NoAsk_init := _, d_NoAsk_init := ⟨F44, F44.binds (ps := ["self", "why"]) (fun _ _ _ _ _ _ us hl => match us, hl with | [_, _], _ => rfl)⟩,
    f_Rule_init := f45, fd_Rule_init := _, d_Rule_init := ⟨F45⟩,
    f_Wish_init := f46, fd_Wish_init := _, d_Wish_init := ⟨F46⟩,
    f_Wish_spelled := f47, fd_Wish_spelled := _, d_Wish_spelled := ⟨F47, F47.binds (ps := ["self"]) (fun _ _ _ _ _ _ us hl => match us, hl with | [_], _ => rfl)⟩,
    f_Ask_init := f48, fd_Ask_init := _, d_Ask_init := ⟨F48⟩,
    f_Ask_told := f49, fd_Ask_told := _, d_Ask_told := ⟨F49, F49.binds (ps := ["self"]) (fun _ _ _ _ _ _ us hl => match us, hl with | [_], _ => rfl)⟩,
    f_Ask_wants_whole := f50, fd_Ask_wants_whole := _, d_Ask_wants_whole := ⟨F50, F50.binds (ps := ["self", "mark"]) (fun _ _ _ _ _ _ us hl => match us, hl with | [_, _], _ => rfl)⟩,
    f_Ask_wanted := f51, fd_Ask_wanted := _, d_Ask_wanted := ⟨F51, F51.binds (ps := ["self", "mark", "size"]) (fun _ _ _ _ _ _ us hl => match us, hl with | [_, _, _], _ => rfl)⟩,
    f_Ask_word_for := f52, fd_Ask_word_for := _, d_Ask_word_for := ⟨F52, F52.binds (ps := ["self", "mark", "size"]) (fun _ _ _ _ _ _ us hl => match us, hl with | [_, _, _], _ => rfl)⟩,
    f_Answer_init := f53, fd_Answer_init := _, d_Answer_init := ⟨F53⟩,
    f_Answer_told := f54, fd_Answer_told := _, d_Answer_told := ⟨F54, F54.binds (ps := ["self"]) (fun _ _ _ _ _ _ us hl => match us, hl with | [_], _ => rfl)⟩,
    C_NoAsk := C_NoAsk, g_NoAsk := PySem.W.mg_of X G aC_NoAsk,
    C_NoWish := C_NoWish, g_NoWish := PySem.W.mg_of X G aC_NoWish,
    C_PageError := C_PageError, g_PageError := PySem.W.mg_of X G aC_PageError,
    ox_NoAsk := ⟨⟨_, _, _, _, _, _, _, _, _, _, _, _, _, _, _, xL_NoAsk, by first | rfl | decide +kernel⟩, sa_NoAsk, ec_NoAsk, tc_NoAsk, kc_NoAsk⟩, na_NoAsk := nb_NoAsk, ii_NoAsk := a44_NoAsk, ti_NoAsk := ty44, ec_NoAsk := ⟨ga_NoAsk, gg_NoAsk, ec_NoAsk, hc_NoAsk, cc_NoAsk, hn_cls, htk_cls, mc_NoAsk⟩, xf_NoAsk := ⟨ga_NoAsk, gg_NoAsk, ec_NoAsk, hc_NoAsk⟩, em_NoAsk := PySem.W.exm_ref ec_NoAsk hc_NoAsk tc_NoAsk sc_NoAsk,
    ox_NoWish := ⟨⟨_, _, _, _, _, _, _, _, _, _, _, _, _, _, _, xL_NoWish, by first | rfl | decide +kernel⟩, sa_NoWish, ec_NoWish, tc_NoWish, kc_NoWish⟩, na_NoWish := nb_NoWish, ii_NoWish := a43_NoWish, ti_NoWish := ty43, ec_NoWish := ⟨ga_NoWish, gg_NoWish, ec_NoWish, hc_NoWish, cc_NoWish, hn_cls, htk_cls, mc_NoWish⟩, xf_NoWish := ⟨ga_NoWish, gg_NoWish, ec_NoWish, hc_NoWish⟩, em_NoWish := PySem.W.exm_ref ec_NoWish hc_NoWish tc_NoWish sc_NoWish,
    C_Wish := C_Wish, g_Wish := PySem.W.mg_of X G aC_Wish, cl_Wish := ⟨pg_Wish, hd_Wish, po_Wish, sa_Wish⟩,
    mk_Wish := ⟨mk_Wish, a46_Wish, i46, kc_Wish⟩,
    n_Wish_atmost := n_Wish_atmost,
    n_Wish_left := n_Wish_left,
    n_Wish_worn := n_Wish_worn,
    n_Wish_anew := n_Wish_anew,
    n_Wish_kept := n_Wish_kept,
    n_Wish_firm := n_Wish_firm,
    me_Wish_spelled := ⟨a47_Wish, i47, k47⟩,
    C_Ask := C_Ask, g_Ask := PySem.W.mg_of X G aC_Ask, cl_Ask := ⟨pg_Ask, hd_Ask, po_Ask, sa_Ask⟩,
    mk_Ask := ⟨mk_Ask, a48_Ask, i48, kc_Ask⟩,
    n_Ask_path := n_Ask_path,
    n_Ask_heads := n_Ask_heads,
    n_Ask_spans := n_Ask_spans,
    n_Ask_unless := n_Ask_unless,
    n_Ask_when := n_Ask_when,
    n_Ask_wish := n_Ask_wish,
    me_Ask_word_for := ⟨a52_Ask, i52, k52⟩,
    me_Ask_wanted := ⟨a51_Ask, i51, k51⟩,
    me_Ask_told := ⟨a49_Ask, i49, k49⟩,
    me_Ask_wants_whole := ⟨a50_Ask, i50, k50⟩,
    C_Answer := C_Answer, g_Answer := PySem.W.mg_of X G aC_Answer, cl_Answer := ⟨pg_Answer, hd_Answer, po_Answer, sa_Answer⟩,
    mk_Answer := ⟨mk_Answer, a53_Answer, i53, kc_Answer⟩,
    n_Answer_word := n_Answer_word,
    n_Answer_mark := n_Answer_mark,
    n_Answer_size := n_Answer_size,
    n_Answer_parts := n_Answer_parts,
    n_Answer_age := n_Answer_age,
    n_Answer_count := n_Answer_count,
    n_Answer_rule := n_Answer_rule,
    n_Answer_turns := n_Answer_turns,
    n_Answer_tags := n_Answer_tags,
    n_Answer_ground := n_Answer_ground,
    ha_Answer := ha_Answer, hm_Answer := hm_Answer,
    me_Answer_told := ⟨a54_Answer, i54, k54⟩,
    C_Rule := C_Rule, g_Rule := PySem.W.mg_of X G aC_Rule, cl_Rule := ⟨pg_Rule, hd_Rule, po_Rule, sa_Rule⟩,
    mk_Rule := ⟨mk_Rule, a45_Rule, i45, kc_Rule⟩,
    n_Rule_keep := n_Rule_keep,
    n_Rule_worn := n_Rule_worn,
    n_Rule_alone := n_Rule_alone,
    n_Rule_anew := n_Rule_anew,
    n_Rule_own := n_Rule_own,
    n_Rule_common := n_Rule_common,
    n_Rule_never := n_Rule_never,
    n_Rule_strict := n_Rule_strict,
    hn_cls := hn_cls, htk_cls := htk_cls,
    ki_Answer_Answer := ki_Answer_Answer,
    e_answered_turns := e_answered_turns,
    eq_answered_turns := fun H => .inr ⟨_, _, _, ye_answered_turns, rfl, rfl, (by show 0 ≤ sizeLine; decide), .nil⟩,
    e_answered_tags := e_answered_tags,
    eq_answered_tags := fun H => .inr ⟨_, _, _, ye_answered_tags, rfl, rfl, (by show 0 ≤ sizeLine; decide), .nil⟩,
    e_answered_ground := e_answered_ground,
    eq_answered_ground := fun H => .inr ⟨_, _, _, ye_answered_ground, rfl, rfl, (by show 0 ≤ sizeLine; decide), .nil⟩,
    e_Ask_init_spans := e_Ask_init_spans,
    eq_Ask_init_spans := fun H => .inr ⟨_, _, _, ye_Ask_init_spans, rfl, rfl, (by show 0 ≤ sizeLine; decide), .nil⟩,
    e_Ask_init_unless := e_Ask_init_unless,
    eq_Ask_init_unless := fun H => .inr ⟨_, _, _, ye_Ask_init_unless, rfl, rfl, (by show 0 ≤ sizeLine; decide), .nil⟩,
    e_Answer_init_parts := e_Answer_init_parts,
    eq_Answer_init_parts := fun H => .inr ⟨_, _, _, ye_Answer_init_parts, rfl, rfl, (by show 0 ≤ sizeLine; decide), .nil⟩,
    e_Answer_init_turns := e_Answer_init_turns,
    eq_Answer_init_turns := fun H => .inr ⟨_, _, _, ye_Answer_init_turns, rfl, rfl, (by show 0 ≤ sizeLine; decide), .nil⟩,
    e_Answer_init_tags := e_Answer_init_tags,
    eq_Answer_init_tags := fun H => .inr ⟨_, _, _, ye_Answer_init_tags, rfl, rfl, (by show 0 ≤ sizeLine; decide), .nil⟩,
    e_Answer_init_ground := e_Answer_init_ground,
    eq_Answer_init_ground := fun H => .inr ⟨_, _, _, ye_Answer_init_ground, rfl, rfl, (by show 0 ≤ sizeLine; decide), .nil⟩,
    kb_0 := (FK46.kbinds0 (ps := ["self", "atmost", "left", "worn", "anew", "kept", "firm"]) 1 ["atmost", "left", "worn", "anew", "kept", "firm"] [] (fun us mv ws => us ++ pickKw [.inr 0, .inr 1, .inr 2, .inr 3, .inr 4, .inr 5] mv ws) (by simp) (by simp) (fun r1 r2 r3 => pick_rel [.inr 0, .inr 1, .inr 2, .inr 3, .inr 4, .inr 5] r1 r2 r3) (fun D doc pm an cdv ct us mv ws h1 h2 h3 => match us, mv, ws, h1, h2, h3 with | [_], [], [_, _, _, _, _, _], _, _, _ => rfl)).elim (fun mv h => ⟨_, h⟩),
    kb_1 := (FK53.kbinds0 (ps := ["self", "word", "mark", "size", "parts", "age", "count", "rule", "turns", "tags", "ground"]) 2 ["mark", "size", "parts", "age", "count", "rule", "turns", "tags", "ground"] [] (fun us mv ws => us ++ pickKw [.inr 0, .inr 1, .inr 2, .inr 3, .inr 4, .inr 5, .inr 6, .inr 7, .inr 8] mv ws) (by simp) (by simp) (fun r1 r2 r3 => pick_rel [.inr 0, .inr 1, .inr 2, .inr 3, .inr 4, .inr 5, .inr 6, .inr 7, .inr 8] r1 r2 r3) (fun D doc pm an cdv ct us mv ws h1 h2 h3 => match us, mv, ws, h1, h2, h3 with | [_, _], [], [_, _, _, _, _, _, _, _, _], _, _, _ => rfl)).elim (fun mv h => ⟨_, h⟩),
    kb_2 := (FK45.kbinds0 (ps := ["self", "keep", "worn", "alone", "anew", "own", "common", "never", "strict"]) 1 ["keep", "own"] [("worn", .int 0), ("alone", .int 0), ("anew", .bl false), ("common", .bl false), ("never", .bl false), ("strict", .bl false)] (fun us mv ws => us ++ pickKw [.inr 0, .inl 0, .inl 1, .inl 2, .inr 1, .inl 3, .inl 4, .inl 5] mv ws) (by simp) (by simp) (fun r1 r2 r3 => pick_rel [.inr 0, .inl 0, .inl 1, .inl 2, .inr 1, .inl 3, .inl 4, .inl 5] r1 r2 r3) (fun D doc pm an cdv ct us mv ws h1 h2 h3 => match us, mv, ws, h1, h2, h3 with | [_], [_, _, _, _, _, _], [_, _], _, _, _ => ⟨_, _, _, _, _, _, rfl, rfl, ⟨_, _, _, _, _, _, rfl, rfl, ⟨_, _, _, _, _, _, rfl, rfl, ⟨_, _, _, _, _, _, rfl, rfl, ⟨_, _, _, _, _, _, rfl, rfl, ⟨_, _, _, _, _, _, rfl, rfl, rfl⟩⟩⟩⟩⟩⟩)).elim (fun mv h => ⟨_, h⟩),
    kb_3 := (FK48.kbinds0 (ps := ["self", "path", "heads", "spans", "unless", "when", "wish"]) 2 ["when", "spans", "unless"] [("heads", .non), ("wish", .str "")] (fun us mv ws => us ++ pickKw [.inl 0, .inr 1, .inr 2, .inr 0, .inl 1] mv ws) (by simp) (by simp) (fun r1 r2 r3 => pick_rel [.inl 0, .inr 1, .inr 2, .inr 0, .inl 1] r1 r2 r3) (fun D doc pm an cdv ct us mv ws h1 h2 h3 => match us, mv, ws, h1, h2, h3 with | [_, _], [_, _], [_, _, _], _, _, _ => ⟨_, _, _, _, _, _, rfl, rfl, ⟨_, _, _, _, _, _, rfl, rfl, rfl⟩⟩)).elim (fun mv h => ⟨_, h⟩),
    kb_4 := (FK27.kbinds0 (ps := ["ask", "mark", "size", "parts", "age", "count", "rule", "turns", "tags", "ground"]) 4 ["ground", "tags", "turns", "rule", "count", "age"] [] (fun us mv ws => us ++ pickKw [.inr 5, .inr 4, .inr 3, .inr 2, .inr 1, .inr 0] mv ws) (by simp) (by simp) (fun r1 r2 r3 => pick_rel [.inr 5, .inr 4, .inr 3, .inr 2, .inr 1, .inr 0] r1 r2 r3) (fun D doc pm an cdv ct us mv ws h1 h2 h3 => match us, mv, ws, h1, h2, h3 with | [_, _, _, _], [], [_, _, _, _, _, _], _, _, _ => rfl)).elim (fun mv h => ⟨_, h⟩),
    kb_5 := FK27.binds0 (ps := ["ask", "mark", "size", "parts", "age", "count", "rule", "turns", "tags", "ground"]) 4 (by simp) rfl (fun D doc pm an cdv ct us ks h1 h2 => match us, ks, h1, h2 with | [_, _, _, _], [_, _, _, _, _, _], _, _ => ⟨_, _, _, _, _, _, rfl, rfl, ⟨_, _, _, _, _, _, rfl, rfl, ⟨_, _, _, _, _, _, rfl, rfl, ⟨_, _, _, _, _, _, rfl, rfl, ⟨_, _, _, _, _, _, rfl, rfl, ⟨_, _, _, _, _, _, rfl, rfl, rfl⟩⟩⟩⟩⟩⟩),
    kb_6 := FK45.binds0 (ps := ["self", "keep", "worn", "alone", "anew", "own", "common", "never", "strict"]) 1 (by simp) rfl (fun D doc pm an cdv ct us ks h1 h2 => match us, ks, h1, h2 with | [_], [_, _, _, _, _, _, _, _], _, _ => ⟨_, _, _, _, _, _, rfl, rfl, ⟨_, _, _, _, _, _, rfl, rfl, ⟨_, _, _, _, _, _, rfl, rfl, ⟨_, _, _, _, _, _, rfl, rfl, ⟨_, _, _, _, _, _, rfl, rfl, ⟨_, _, _, _, _, _, rfl, rfl, ⟨_, _, _, _, _, _, rfl, rfl, ⟨_, _, _, _, _, _, rfl, rfl, rfl⟩⟩⟩⟩⟩⟩⟩⟩),
    t_LETTERS := _, g_LETTERS := PySem.W.mg_of X G x_LETTERS,
    t_FIGURES := _, g_FIGURES := PySem.W.mg_of X G x_FIGURES,
    t_WORTH_SIGNS := _, g_WORTH_SIGNS := PySem.W.mg_of X G x_WORTH_SIGNS,
    t_LONGEST_NAME := _, g_LONGEST_NAME := PySem.W.mg_of X G x_LONGEST_NAME,
    t_LONGEST_WORTH := _, g_LONGEST_WORTH := PySem.W.mg_of X G x_LONGEST_WORTH,
    t_MOST_NAMES := _, g_MOST_NAMES := PySem.W.mg_of X G x_MOST_NAMES,
    t_MOST_FIGURES := _, g_MOST_FIGURES := PySem.W.mg_of X G x_MOST_FIGURES,
    a_WISH_NUMBERS := a_WISH_NUMBERS, g_WISH_NUMBERS := PySem.W.mg_of X G x_WISH_NUMBERS, q_WISH_NUMBERS := fun H => .inr ⟨_, _, _, y_WISH_NUMBERS, rfl, rfl, (by show 3 ≤ sizeLine; decide), (.cons ⟨_, rfl⟩ (.cons ⟨_, rfl⟩ (.cons ⟨_, rfl⟩ .nil)))⟩,
    a_WISH_TRUTHS := a_WISH_TRUTHS, g_WISH_TRUTHS := PySem.W.mg_of X G x_WISH_TRUTHS, q_WISH_TRUTHS := fun H => .inr ⟨_, _, _, y_WISH_TRUTHS, rfl, rfl, (by show 3 ≤ sizeLine; decide), (.cons ⟨_, rfl⟩ (.cons ⟨_, rfl⟩ (.cons ⟨_, rfl⟩ .nil)))⟩,
    a_BEARS_PARTS := a_BEARS_PARTS, g_BEARS_PARTS := PySem.W.mg_of X G x_BEARS_PARTS, q_BEARS_PARTS := fun H => .inr ⟨_, _, _, y_BEARS_PARTS, rfl, rfl, (by show 2 ≤ sizeLine; decide), (.cons ⟨_, rfl⟩ (.cons ⟨_, rfl⟩ .nil))⟩,
    m_all := PySem.W.mg_none_of X G z_all,
    m_any := PySem.W.mg_none_of X G z_any,
    m_bool := PySem.W.mg_none_of X G z_bool,
    m_enumerate := PySem.W.mg_none_of X G z_enumerate,
    m_int := PySem.W.mg_none_of X G z_int,
    m_isinstance := PySem.W.mg_none_of X G z_isinstance,
    m_len := PySem.W.mg_none_of X G z_len,
    m_list := PySem.W.mg_none_of X G z_list,
    m_max := PySem.W.mg_none_of X G z_max,
    m_min := PySem.W.mg_none_of X G z_min,
    m_range := PySem.W.mg_none_of X G z_range,
    m_sorted := PySem.W.mg_none_of X G z_sorted,
    m_str := PySem.W.mg_none_of X G z_str,
    m_tuple := PySem.W.mg_none_of X G z_tuple
  }
  exact ⟨T.fd_law, fun s v => .of_eq rfl, fun base _ _ => ok_law T⟩
end My
open PySem PySem.W PyProof.Rows
set_option maxHeartbeats 0 in
theorem PySem.Challenge.cw_pagelodge_k27_answered_holds : PySem.Challenge.rw_pagelodge_k27_answered.Holds := by
  w_on; o_law; k_head; (case hw => w_witness2)
  k_fill
  refine L2.walk_of (l := PySem.Challenge.rw_pagelodge_k27_answered) (n := 63) (k := 8) (x := "_law_script") (CX := fun _ => L2.CX0) (sp := fun w => My.spLaw _) rfl (by decide) rfl ⟨rfl, by decide, by decide⟩ (fun w h Y => PySem.W.kIn_of Y) ?F (fun _ _ a ns hl _ hS => ⟨a, ns, rfl, hS, hl, fun _ => rfl⟩) (fun _ _ _ _ _ h => h)
  case F =>
    intro w mg fa h KX G hmg
    refine' My.all_mk KX G hmg ?aC_Wish ?pg_Wish ?hd_Wish ?po_Wish ?sa_Wish ?mk_Wish ?kc_Wish ?n_Wish_atmost ?n_Wish_left ?n_Wish_worn ?n_Wish_anew ?n_Wish_kept ?n_Wish_firm ?aC_Ask ?pg_Ask ?hd_Ask ?po_Ask ?sa_Ask ?mk_Ask ?kc_Ask ?n_Ask_path ?n_Ask_heads ?n_Ask_spans ?n_Ask_unless ?n_Ask_when ?n_Ask_wish ?aC_Answer ?pg_Answer ?hd_Answer ?po_Answer ?sa_Answer ?mk_Answer ?kc_Answer ?n_Answer_word ?n_Answer_mark ?n_Answer_size ?n_Answer_parts ?n_Answer_age ?n_Answer_count ?n_Answer_rule ?n_Answer_turns ?n_Answer_tags ?n_Answer_ground ?aC_Rule ?pg_Rule ?hd_Rule ?po_Rule ?sa_Rule ?mk_Rule ?kc_Rule ?n_Rule_keep ?n_Rule_worn ?n_Rule_alone ?n_Rule_anew ?n_Rule_own ?n_Rule_common ?n_Rule_never ?n_Rule_strict ?ha_Answer ?hm_Answer ?hn_cls ?htk_cls ?ki_Answer_Answer ?aC_NoAsk ?aC_NoWish ?aC_PageError ?xL_NoAsk ?sa_NoAsk ?ga_NoAsk ?gg_NoAsk ?nb_NoAsk ?kc_NoAsk ?ec_NoAsk ?tc_NoAsk ?hc_NoAsk ?cc_NoAsk ?mc_NoAsk ?sc_NoAsk ?xL_NoWish ?sa_NoWish ?ga_NoWish ?gg_NoWish ?nb_NoWish ?kc_NoWish ?ec_NoWish ?tc_NoWish ?hc_NoWish ?cc_NoWish ?mc_NoWish ?sc_NoWish ?a0 ?l0 ?c0 ?k0 ?a1 ?l1 ?c1 ?k1 ?a2 ?l2 ?c2 ?k2 ?a3 ?l3 ?c3 ?k3 ?a4 ?l4 ?c4 ?k4 ?a5 ?l5 ?c5 ?k5 ?a6 ?l6 ?c6 ?k6 ?a7 ?l7 ?c7 ?k7 ?a8 ?l8 ?c8 ?k8 ?a9 ?l9 ?c9 ?k9 ?a10 ?l10 ?c10 ?k10 ?a11 ?l11 ?c11 ?k11 ?a12 ?l12 ?c12 ?k12 ?a13 ?l13 ?c13 ?k13 ?a14 ?l14 ?c14 ?k14 ?a15 ?l15 ?c15 ?k15 ?a16 ?l16 ?c16 ?k16 ?a17 ?l17 ?c17 ?k17 ?a18 ?l18 ?c18 ?k18 ?a19 ?l19 ?c19 ?k19 ?a20 ?l20 ?c20 ?k20 ?a21 ?l21 ?c21 ?k21 ?a22 ?l22 ?c22 ?k22 ?a23 ?l23 ?c23 ?k23 ?a24 ?l24 ?c24 ?k24 ?a25 ?l25 ?c25 ?k25 ?a26 ?l26 ?c26 ?k26 ?a27 ?l27 ?c27 ?k27 ?y_answered_age ?y_answered_count ?y_answered_rule ?y_answered_turns ?ye_answered_turns ?y_answered_tags ?ye_answered_tags ?y_answered_ground ?ye_answered_ground ?a28 ?l28 ?c28 ?k28 ?a29 ?l29 ?c29 ?k29 ?a30 ?l30 ?c30 ?k30 ?a31 ?l31 ?c31 ?k31 ?a32 ?l32 ?c32 ?k32 ?a33 ?l33 ?c33 ?k33 ?a34 ?l34 ?c34 ?k34 ?a35 ?l35 ?c35 ?k35 ?a36 ?l36 ?c36 ?k36 ?a37 ?l37 ?c37 ?k37 ?a38 ?l38 ?c38 ?k38 ?a39 ?l39 ?c39 ?k39 ?a40 ?l40 ?c40 ?k40 ?a41 ?l41 ?c41 ?k41 ?a42 ?l42 ?c42 ?k42 ?a43_NoWish ?i43 ?ty43 ?l43 ?c43 ?k43 ?a44_NoAsk ?i44 ?ty44 ?l44 ?c44 ?k44 ?a45_Rule ?i45 ?l45 ?c45 ?k45 ?y_Rule_init_keep ?y_Rule_init_worn ?y_Rule_init_alone ?y_Rule_init_anew ?y_Rule_init_own ?y_Rule_init_common ?y_Rule_init_never ?y_Rule_init_strict ?a46_Wish ?i46 ?l46 ?c46 ?k46 ?y_Wish_init_atmost ?y_Wish_init_left ?y_Wish_init_worn ?y_Wish_init_anew ?y_Wish_init_kept ?y_Wish_init_firm ?a47_Wish ?i47 ?l47 ?c47 ?k47 ?a48_Ask ?i48 ?l48 ?c48 ?k48 ?y_Ask_init_heads ?y_Ask_init_spans ?ye_Ask_init_spans ?y_Ask_init_unless ?ye_Ask_init_unless ?y_Ask_init_when ?y_Ask_init_wish ?a49_Ask ?i49 ?l49 ?c49 ?k49 ?a50_Ask ?i50 ?l50 ?c50 ?k50 ?a51_Ask ?i51 ?l51 ?c51 ?k51 ?a52_Ask ?i52 ?l52 ?c52 ?k52 ?a53_Answer ?i53 ?l53 ?c53 ?k53 ?y_Answer_init_mark ?y_Answer_init_size ?y_Answer_init_parts ?ye_Answer_init_parts ?y_Answer_init_age ?y_Answer_init_count ?y_Answer_init_rule ?y_Answer_init_turns ?ye_Answer_init_turns ?y_Answer_init_tags ?ye_Answer_init_tags ?y_Answer_init_ground ?ye_Answer_init_ground ?a54_Answer ?i54 ?l54 ?c54 ?k54 ?x_LETTERS ?x_FIGURES ?x_WORTH_SIGNS ?x_LONGEST_NAME ?x_LONGEST_WORTH ?x_MOST_NAMES ?x_MOST_FIGURES ?x_WISH_NUMBERS ?y_WISH_NUMBERS ?x_WISH_TRUTHS ?y_WISH_TRUTHS ?x_BEARS_PARTS ?y_BEARS_PARTS ?z_all ?z_any ?z_bool ?z_enumerate ?z_int ?z_isinstance ?z_len ?z_list ?z_max ?z_min ?z_range ?z_sorted ?z_str ?z_tuple
    (case aC_Wish => k_is)
    (case pg_Wish => k_is)
    (case hd_Wish => k_is)
    (case po_Wish => k_is)
    (case sa_Wish => k_is)
    (case mk_Wish => k_is)
    (case kc_Wish => k_is)
    (case n_Wish_atmost => k_is)
    (case n_Wish_left => k_is)
    (case n_Wish_worn => k_is)
    (case n_Wish_anew => k_is)
    (case n_Wish_kept => k_is)
    (case n_Wish_firm => k_is)
    (case aC_Ask => k_is)
    (case pg_Ask => k_is)
    (case hd_Ask => k_is)
    (case po_Ask => k_is)
    (case sa_Ask => k_is)
    (case mk_Ask => k_is)
    (case kc_Ask => k_is)
    (case n_Ask_path => k_is)
    (case n_Ask_heads => k_is)
    (case n_Ask_spans => k_is)
    (case n_Ask_unless => k_is)
    (case n_Ask_when => k_is)
    (case n_Ask_wish => k_is)
    (case aC_Answer => k_is)
    (case pg_Answer => k_is)
    (case hd_Answer => k_is)
    (case po_Answer => k_is)
    (case sa_Answer => k_is)
    (case mk_Answer => k_is)
    (case kc_Answer => k_is)
    (case n_Answer_word => k_is)
    (case n_Answer_mark => k_is)
    (case n_Answer_size => k_is)
    (case n_Answer_parts => k_is)
    (case n_Answer_age => k_is)
    (case n_Answer_count => k_is)
    (case n_Answer_rule => k_is)
    (case n_Answer_turns => k_is)
    (case n_Answer_tags => k_is)
    (case n_Answer_ground => k_is)
    (case aC_Rule => k_is)
    (case pg_Rule => k_is)
    (case hd_Rule => k_is)
    (case po_Rule => k_is)
    (case sa_Rule => k_is)
    (case mk_Rule => k_is)
    (case kc_Rule => k_is)
    (case n_Rule_keep => k_is)
    (case n_Rule_worn => k_is)
    (case n_Rule_alone => k_is)
    (case n_Rule_anew => k_is)
    (case n_Rule_own => k_is)
    (case n_Rule_common => k_is)
    (case n_Rule_never => k_is)
    (case n_Rule_strict => k_is)
    (case ha_Answer => k_is)
    (case hm_Answer => k_is)
    (case hn_cls => k_is)
    (case htk_cls => k_is)
    (case ki_Answer_Answer => kit_is)
    (case aC_NoAsk => k_is)
    (case aC_NoWish => k_is)
    (case aC_PageError => k_is)
    (case xL_NoAsk => k_is)
    (case sa_NoAsk => k_is)
    (case ga_NoAsk => k_is)
    (case gg_NoAsk => k_is)
    (case nb_NoAsk => k_is)
    (case kc_NoAsk => k_is)
    (case ec_NoAsk => k_is)
    (case tc_NoAsk => k_is)
    (case hc_NoAsk => k_is)
    (case cc_NoAsk => k_is)
    (case mc_NoAsk => k_is)
    (case sc_NoAsk => k_is)
    (case xL_NoWish => k_is)
    (case sa_NoWish => k_is)
    (case ga_NoWish => k_is)
    (case gg_NoWish => k_is)
    (case nb_NoWish => k_is)
    (case kc_NoWish => k_is)
    (case ec_NoWish => k_is)
    (case tc_NoWish => k_is)
    (case hc_NoWish => k_is)
    (case cc_NoWish => k_is)
    (case mc_NoWish => k_is)
    (case sc_NoWish => k_is)
    (case a0 => k_is)
    (case l0 => k_is)
    (case c0 => k_is)
    (case k0 => k_is)
    (case a1 => k_is)
    (case l1 => k_is)
    (case c1 => k_is)
    (case k1 => k_is)
    (case a2 => k_is)
    (case l2 => k_is)
    (case c2 => k_is)
    (case k2 => k_is)
    (case a3 => k_is)
    (case l3 => k_is)
    (case c3 => k_is)
    (case k3 => k_is)
    (case a4 => k_is)
    (case l4 => k_is)
    (case c4 => k_is)
    (case k4 => k_is)
    (case a5 => k_is)
    (case l5 => k_is)
    (case c5 => k_is)
    (case k5 => k_is)
    (case a6 => k_is)
    (case l6 => k_is)
    (case c6 => k_is)
    (case k6 => k_is)
    (case a7 => k_is)
    (case l7 => k_is)
    (case c7 => k_is)
    (case k7 => k_is)
    (case a8 => k_is)
    (case l8 => k_is)
    (case c8 => k_is)
    (case k8 => k_is)
    (case a9 => k_is)
    (case l9 => k_is)
    (case c9 => k_is)
    (case k9 => k_is)
    (case a10 => k_is)
    (case l10 => k_is)
    (case c10 => k_is)
    (case k10 => k_is)
    (case a11 => k_is)
    (case l11 => k_is)
    (case c11 => k_is)
    (case k11 => k_is)
    (case a12 => k_is)
    (case l12 => k_is)
    (case c12 => k_is)
    (case k12 => k_is)
    (case a13 => k_is)
    (case l13 => k_is)
    (case c13 => k_is)
    (case k13 => k_is)
    (case a14 => k_is)
    (case l14 => k_is)
    (case c14 => k_is)
    (case k14 => k_is)
    (case a15 => k_is)
    (case l15 => k_is)
    (case c15 => k_is)
    (case k15 => k_is)
    (case a16 => k_is)
    (case l16 => k_is)
    (case c16 => k_is)
    (case k16 => k_is)
    (case a17 => k_is)
    (case l17 => k_is)
    (case c17 => k_is)
    (case k17 => k_is)
    (case a18 => k_is)
    (case l18 => k_is)
    (case c18 => k_is)
    (case k18 => k_is)
    (case a19 => k_is)
    (case l19 => k_is)
    (case c19 => k_is)
    (case k19 => k_is)
    (case a20 => k_is)
    (case l20 => k_is)
    (case c20 => k_is)
    (case k20 => k_is)
    (case a21 => k_is)
    (case l21 => k_is)
    (case c21 => k_is)
    (case k21 => k_is)
    (case a22 => k_is)
    (case l22 => k_is)
    (case c22 => k_is)
    (case k22 => k_is)
    (case a23 => k_is)
    (case l23 => k_is)
    (case c23 => k_is)
    (case k23 => k_is)
    (case a24 => k_is)
    (case l24 => k_is)
    (case c24 => k_is)
    (case k24 => k_is)
    (case a25 => k_is)
    (case l25 => k_is)
    (case c25 => k_is)
    (case k25 => k_is)
    (case a26 => k_is)
    (case l26 => k_is)
    (case c26 => k_is)
    (case k26 => k_is)
    (case a27 => k_is)
    (case l27 => k_is)
    (case c27 => k_is)
    (case k27 => k_is)
    (case y_answered_age => k_is)
    (case y_answered_count => k_is)
    (case y_answered_rule => k_is)
    (case y_answered_turns => k_is)
    (case ye_answered_turns => k_is)
    (case y_answered_tags => k_is)
    (case ye_answered_tags => k_is)
    (case y_answered_ground => k_is)
    (case ye_answered_ground => k_is)
    (case a28 => k_is)
    (case l28 => k_is)
    (case c28 => k_is)
    (case k28 => k_is)
    (case a29 => k_is)
    (case l29 => k_is)
    (case c29 => k_is)
    (case k29 => k_is)
    (case a30 => k_is)
    (case l30 => k_is)
    (case c30 => k_is)
    (case k30 => k_is)
    (case a31 => k_is)
    (case l31 => k_is)
    (case c31 => k_is)
    (case k31 => k_is)
    (case a32 => k_is)
    (case l32 => k_is)
    (case c32 => k_is)
    (case k32 => k_is)
    (case a33 => k_is)
    (case l33 => k_is)
    (case c33 => k_is)
    (case k33 => k_is)
    (case a34 => k_is)
    (case l34 => k_is)
    (case c34 => k_is)
    (case k34 => k_is)
    (case a35 => k_is)
    (case l35 => k_is)
    (case c35 => k_is)
    (case k35 => k_is)
    (case a36 => k_is)
    (case l36 => k_is)
    (case c36 => k_is)
    (case k36 => k_is)
    (case a37 => k_is)
    (case l37 => k_is)
    (case c37 => k_is)
    (case k37 => k_is)
    (case a38 => k_is)
    (case l38 => k_is)
    (case c38 => k_is)
    (case k38 => k_is)
    (case a39 => k_is)
    (case l39 => k_is)
    (case c39 => k_is)
    (case k39 => k_is)
    (case a40 => k_is)
    (case l40 => k_is)
    (case c40 => k_is)
    (case k40 => k_is)
    (case a41 => k_is)
    (case l41 => k_is)
    (case c41 => k_is)
    (case k41 => k_is)
    (case a42 => k_is)
    (case l42 => k_is)
    (case c42 => k_is)
    (case k42 => k_is)
    (case a43_NoWish => k_is)
    (case i43 => k_is)
    (case ty43 => k_is)
    (case l43 => k_is)
    (case c43 => k_is)
    (case k43 => k_is)
    (case a44_NoAsk => k_is)
    (case i44 => k_is)
    (case ty44 => k_is)
    (case l44 => k_is)
    (case c44 => k_is)
    (case k44 => k_is)
    (case a45_Rule => k_is)
    (case i45 => k_is)
    (case l45 => k_is)
    (case c45 => k_is)
    (case k45 => k_is)
    (case y_Rule_init_keep => k_is)
    (case y_Rule_init_worn => k_is)
    (case y_Rule_init_alone => k_is)
    (case y_Rule_init_anew => k_is)
    (case y_Rule_init_own => k_is)
    (case y_Rule_init_common => k_is)
    (case y_Rule_init_never => k_is)
    (case y_Rule_init_strict => k_is)
    (case a46_Wish => k_is)
    (case i46 => k_is)
    (case l46 => k_is)
    (case c46 => k_is)
    (case k46 => k_is)
    (case y_Wish_init_atmost => k_is)
    (case y_Wish_init_left => k_is)
    (case y_Wish_init_worn => k_is)
    (case y_Wish_init_anew => k_is)
    (case y_Wish_init_kept => k_is)
    (case y_Wish_init_firm => k_is)
    (case a47_Wish => k_is)
    (case i47 => k_is)
    (case l47 => k_is)
    (case c47 => k_is)
    (case k47 => k_is)
    (case a48_Ask => k_is)
    (case i48 => k_is)
    (case l48 => k_is)
    (case c48 => k_is)
    (case k48 => k_is)
    (case y_Ask_init_heads => k_is)
    (case y_Ask_init_spans => k_is)
    (case ye_Ask_init_spans => k_is)
    (case y_Ask_init_unless => k_is)
    (case ye_Ask_init_unless => k_is)
    (case y_Ask_init_when => k_is)
    (case y_Ask_init_wish => k_is)
    (case a49_Ask => k_is)
    (case i49 => k_is)
    (case l49 => k_is)
    (case c49 => k_is)
    (case k49 => k_is)
    (case a50_Ask => k_is)
    (case i50 => k_is)
    (case l50 => k_is)
    (case c50 => k_is)
    (case k50 => k_is)
    (case a51_Ask => k_is)
    (case i51 => k_is)
    (case l51 => k_is)
    (case c51 => k_is)
    (case k51 => k_is)
    (case a52_Ask => k_is)
    (case i52 => k_is)
    (case l52 => k_is)
    (case c52 => k_is)
    (case k52 => k_is)
    (case a53_Answer => k_is)
    (case i53 => k_is)
    (case l53 => k_is)
    (case c53 => k_is)
    (case k53 => k_is)
    (case y_Answer_init_mark => k_is)
    (case y_Answer_init_size => k_is)
    (case y_Answer_init_parts => k_is)
    (case ye_Answer_init_parts => k_is)
    (case y_Answer_init_age => k_is)
    (case y_Answer_init_count => k_is)
    (case y_Answer_init_rule => k_is)
    (case y_Answer_init_turns => k_is)
    (case ye_Answer_init_turns => k_is)
    (case y_Answer_init_tags => k_is)
    (case ye_Answer_init_tags => k_is)
    (case y_Answer_init_ground => k_is)
    (case ye_Answer_init_ground => k_is)
    (case a54_Answer => k_is)
    (case i54 => k_is)
    (case l54 => k_is)
    (case c54 => k_is)
    (case k54 => k_is)
    (case x_LETTERS => k_is)
    (case x_FIGURES => k_is)
    (case x_WORTH_SIGNS => k_is)
    (case x_LONGEST_NAME => k_is)
    (case x_LONGEST_WORTH => k_is)
    (case x_MOST_NAMES => k_is)
    (case x_MOST_FIGURES => k_is)
    (case x_WISH_NUMBERS => k_is)
    (case y_WISH_NUMBERS => k_is)
    (case x_WISH_TRUTHS => k_is)
    (case y_WISH_TRUTHS => k_is)
    (case x_BEARS_PARTS => k_is)
    (case y_BEARS_PARTS => k_is)
    (case z_all => k_is)
    (case z_any => k_is)
    (case z_bool => k_is)
    (case z_enumerate => k_is)
    (case z_int => k_is)
    (case z_isinstance => k_is)
    (case z_len => k_is)
    (case z_list => k_is)
    (case z_max => k_is)
    (case z_min => k_is)
    (case z_range => k_is)
    (case z_sorted => k_is)
    (case z_str => k_is)
    (case z_tuple => k_is)
