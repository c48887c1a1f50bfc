import PyProof.Rows.All
import Wide.All
import OpenK.AllK
import Wide.FinOn
import HandS.ForMost
import HandS.IsInst
import HandS.Walk
import HandS.Style
import HandS.Evl
import KE.SortData
import HandS.MakeKwOnly
import HandS.SortKw
import HandS.StrMore
import HandS.FStr
import KE.DataMinMax
import HandS.TryOnly
import HandS.Deep
import KE.IntTextLaws
import HandS.Exc
import HandS.ExcOwn
import HandS.ExcField
import HandS.ExcIs
import KE.KExcIs
import HandS.WordsExc
import HandS.ForExc
import HandS.ExcInit
import PySem.Challenge.RW_pagelodge_k13_one_sign_otherwise
set_option Elab.async false
set_option linter.all false
set_option maxRecDepth 100000
set_option maxHeartbeats 4000000
namespace My
open PySem PySem.Spec PyProof.Rows L2 TL
/-- xs == [], xs != []: items of any kind -/
def rEqNil (K : PySem.W.Frag) : R2 := fun x y H Q => ∃ p q xs, x = .ref p ∧ y = .ref q ∧ SqL K H p xs ∧ SqL K H q [] ∧ Q (.bl xs.isEmpty) H
section
variable {X : Cx}
theorem op_eqNil (hu : X.A.units + 64 < cLine) : OpR X (compareOp .Eq) (rEqNil X.K) := by
  intro pins s σ H x y v u Q I rx ry h
  obtain ⟨p, q, xs, rfl, rfl, h1, h2, k⟩ := h
  obtain ⟨its, rv, hl, _⟩ := I.list h1
  obtain ⟨its2, rv2, hl2, _⟩ := I.list h2
  cases (show v = Value.ref p from rx)
  cases (show u = Value.ref q from ry)
  cases rv2
  cases rv with
  | nil => exact SeqAt.eq_listAt (e := fun _ => true) hl.isList hl2.isList rfl (by omega) (fun j h1 _ => absurd h1 (by simp)) ⟨.bl true, H, I, rfl, k⟩
  | cons a b => exact SeqAt.eq_list_lengthsAt hl.isList hl2.isList (by simp) (by omega) ⟨.bl false, H, I, rfl, k⟩
end
/-! ### heaps that change at the well alone -/
def W3 (a b c : Int) : HO := .lst [.int a, .int b, .int c]
def IsW (H : Hp) (W : Addr) : Prop := ∃ a b c, H W = some (W3 a b c)
structure Wx (W : Addr) (H H' : Hp) : Prop where
  keep : ∀ b o, b ≠ W → H b = some o → H' b = some o
  well : IsW H' W
theorem Wx.refl {W : Addr} {H : Hp} (h : IsW H W) : Wx W H H := ⟨fun _ _ _ e => e, h⟩
theorem Wx.trans {W : Addr} {H H1 H2 : Hp} (a : Wx W H H1) (b : Wx W H1 H2) : Wx W H H2 := ⟨fun c o n e => b.keep c o n (a.keep c o n e), b.well⟩
theorem Wx.free {W : Addr} {H H' : Hp} (e : Wx W H H') {p : Addr} (h : H' p = none) : H p = none := by
  cases q : H p with
  | none => rfl
  | some o =>
    by_cases hp : p = W
    · obtain ⟨a, b, c, hw⟩ := e.well
      rw [hp, hw] at h
      cases h
    · rw [e.keep p o hp q] at h
      cases h
theorem Wx.new {W : Addr} {H H' : Hp} (e : Wx W H H') {p : Addr} {o : HO} (h : H' p = none) : Wx W H (upd H' p o) := by
  obtain ⟨k, a, b, c, hw⟩ := e
  refine ⟨fun d u n q => ?_, a, b, c, ?_⟩
  · rw [upd_ne (ne_of_none (k d u n q) h)]
    exact k d u n q
  · rw [upd_ne (ne_of_none hw h)]
    exact hw
theorem Wx.set {W : Addr} {H H' : Hp} (e : Wx W H H') (a b c : Int) : Wx W H (upd H' W (W3 a b c)) := by
  refine ⟨fun d u n q => ?_, a, b, c, upd_same⟩
  rw [upd_ne n]
  exact e.keep d u n q
theorem IsW.ne {H : Hp} {W p : Addr} (h : IsW H W) (hp : H p = none) : W ≠ p := by
  obtain ⟨a, b, c, hw⟩ := h
  exact ne_of_none hw hp
theorem Wx.same {W : Addr} {H H1 H2 : Hp} (a : Wx W H H1) (b : Same H1 H2) : Wx W H H2 := by
  obtain ⟨k, x, y, z, hw⟩ := a
  exact ⟨fun c o n e => b c o (k c o n e), x, y, z, b _ _ hw⟩
/-- a list (other than the well) that is made here may change -/
theorem Wx.mut {W : Addr} {H H' : Hp} (e : Wx W H H') {p : Addr} {o : HO} (h : H p = none) (n : W ≠ p) : Wx W H (upd H' p o) := by
  obtain ⟨k, a, b, c, hw⟩ := e
  refine ⟨fun d u m q => ?_, a, b, c, ?_⟩
  · rw [upd_ne (ne_of_none q h)]
    exact k d u m q
  · rw [upd_ne n]
    exact hw
def spWell : Sp := fun vs H Q _ => ∃ n : Int, vs = [.int n] ∧ ∀ p a b c, H p = none → Q (.ref p) (upd H p (W3 a b c))
def spDraw : Sp := fun vs H Q _ => ∃ (W : Addr) (m : Int), vs = [.ref W, .int m] ∧ 0 < m ∧ m < 1073741824 ∧ IsW H W ∧ ∀ r H', 0 ≤ r → r < m → Wx W H H' → Q (.int r) H'
theorem mod_lt {n m : Int} (h : 0 < m) : 0 ≤ n % m ∧ n % m < m := ⟨Int.emod_nonneg n (by omega), Int.emod_lt_of_pos n h⟩
theorem cmul_of {i j : Int} (h : 0 ≤ i ∧ i < 2147483647) : CMul i j := .inl (by omega)
/-! ### texts and lists -/
theorem atI_in {α : Type} {xs : List α} {r : Int} (h0 : 0 ≤ r) (h1 : r < xs.length) : ∃ c, c ∈ xs ∧ atI xs r = some c := by
  obtain ⟨n, rfl⟩ : ∃ n : Nat, r = n := ⟨r.toNat, by omega⟩
  have hn : n < xs.length := by omega
  exact ⟨xs[n], List.getElem_mem hn, atI_nat (List.getElem?_eq_getElem hn)⟩
theorem len_tl (z : Str) : z.cps.toList.length = z.length := Array.length_toList
theorem joinL_one : ∀ t : List Nat, joinL [] (t.map fun c => [c]) = t
  | [] => rfl
  | [c] => rfl
  | c :: d :: r => by
    show [c] ++ ([] ++ joinL [] ((d :: r).map fun c => [c])) = c :: d :: r
    rw [joinL_one (d :: r)]
    rfl
theorem join_signs (y : Str) (hy : y.cps.toList = []) (t : List Nat) : Txt.join y (t.map fun c => (⟨#[c]⟩ : Str)) = ⟨t.toArray⟩ := by
  have e : tl (Txt.join y (t.map fun c => (⟨#[c]⟩ : Str))) = t := by
    rw [join_eq, tl_join, List.map_map]
    show joinL (y.cps.toList) (t.map fun c => [c]) = t
    rw [hy, joinL_one]
  rw [← mk_tl (Txt.join y (t.map fun c => (⟨#[c]⟩ : Str))), e]
theorem joinL_len (S : List Nat) : ∀ ps : List (List Nat), (joinL S ps).length ≤ (ps.map List.length).sum + ps.length * S.length
  | [] => Nat.zero_le _
  | [p] => by
    show p.length ≤ p.length + 0 + 1 * S.length
    omega
  | p :: q :: r => by
    have ih := joinL_len S (q :: r)
    show (p ++ (S ++ joinL S (q :: r))).length ≤ p.length + ((q :: r).map List.length).sum + ((q :: r).length + 1) * S.length
    rw [List.length_append, List.length_append, Nat.add_mul]
    omega
theorem join_len (y : Str) (ps : List Str) : (Txt.join y ps).length ≤ (ps.map (·.length)).sum + ps.length * y.length := by
  have h := joinL_len (tl y) (ps.map tl)
  rw [← tl_join, ← join_eq, List.map_map, List.length_map] at h
  have e : (ps.map (List.length ∘ tl)) = ps.map (·.length) := List.map_congr_left fun z _ => len_tl z
  rw [e] at h
  have e2 : (tl (Txt.join y ps)).length = (Txt.join y ps).length := len_tl _
  have e3 : (tl y).length = y.length := len_tl _
  rw [e2, e3] at h
  exact h
theorem sum_ones (t : List Nat) : ((t.map fun c => (⟨#[c]⟩ : Str)).map (·.length)).sum = t.length := by
  induction t with
  | nil => rfl
  | cons c r ih =>
    show 1 + ((r.map fun c => (⟨#[c]⟩ : Str)).map (·.length)).sum = r.length + 1
    rw [ih]
    omega
theorem sum_le {b : Nat} : ∀ ps : List Str, (∀ z ∈ ps, z.length ≤ b) → (ps.map (·.length)).sum ≤ ps.length * b
  | [], _ => Nat.zero_le _
  | z :: r, h => by
    have ih := sum_le r fun y hy => h y (List.mem_cons_of_mem _ hy)
    have hz := h z (List.mem_cons_self ..)
    show z.length + (r.map (·.length)).sum ≤ (r.length + 1) * b
    rw [Nat.add_mul]
    omega
theorem len_app (a b : Str) : (a ++ b).length = a.length + b.length := Array.size_append
theorem cutS_len (z : Str) (lo hi : Option Int) : (cutS z lo hi).length ≤ z.length := by
  show ((z.cps.toList.drop _).take _).toArray.size ≤ _
  rw [List.size_toArray, List.length_take, List.length_drop, len_tl]
  omega
theorem szl {n : Nat} (h : n ≤ 100000) : n ≤ sizeLine := Nat.le_trans h (by decide)
theorem szlt {n : Nat} (h : n < 100000) : n < sizeLine := Nat.lt_of_lt_of_le h (by decide)
def spSigns : Sp := fun vs H Q _ => ∃ (W : Addr) (z : Str) (m : Int), vs = [.ref W, .str z, .int m] ∧ 0 < z.length ∧ z.length ≤ 1000 ∧ 0 ≤ m ∧ m ≤ 1000 ∧ IsW H W ∧
  ∀ (t : List Nat) H', t.length = m.toNat → (∀ c ∈ t, c ∈ z.cps.toList) → Wx W H H' → Q (.str ⟨t.toArray⟩) H'
theorem ints_at {ns : List Int} {r : Int} (h0 : 0 ≤ r) (h1 : r < ns.length) : ∃ n, n ∈ ns ∧ atI (ns.map V.int) r = some (.int n) := by
  obtain ⟨v, hv, ev⟩ := atI_in (xs := ns.map V.int) h0 (by rw [List.length_map]; exact h1)
  obtain ⟨n, hn, rfl⟩ := List.mem_map.mp hv
  exact ⟨n, hn, ev⟩
theorem strs_at {ns : List Str} {r : Int} (h0 : 0 ≤ r) (h1 : r < ns.length) : ∃ n, n ∈ ns ∧ atI (ns.map V.str) r = some (.str n) := by
  obtain ⟨v, hv, ev⟩ := atI_in (xs := ns.map V.str) h0 (by rw [List.length_map]; exact h1)
  obtain ⟨n, hn, rfl⟩ := List.mem_map.mp hv
  exact ⟨n, hn, ev⟩
theorem mk_len (t : List Nat) : (⟨t.toArray⟩ : Str).length = t.length := List.size_toArray
def spText (b : Nat) : Sp := fun vs H Q _ => ∃ (W : Addr), vs = [.ref W] ∧ IsW H W ∧ ∀ t H', t.length ≤ b → Wx W H H' → Q (.str t) H'
theorem same_upd {H : Hp} {p : Addr} {o : HO} (h : H p = none) : Same H (upd H p o) := fun b x e => by
  rw [upd_ne (ne_of_none e h)]
  exact e
theorem same_mut {H H' : Hp} {p : Addr} {o : HO} (e : Same H H') (h : H p = none) : Same H (upd H' p o) := fun a u ha => by
  rw [upd_ne (ne_of_none ha h)]
  exact e a u ha
theorem take_map {α β : Type} {xs : List α} {i : Nat} {c : α} (f : α → β) (h : xs[i]? = some c) : (xs.take (i + 1)).map f = (xs.take i).map f ++ [f c] := by
  rw [List.take_add_one, h, List.map_append]
  rfl
theorem at_l {z : Str} {i c : Nat} (h : z.cps[i]? = some c) : z.cps.toList[i]? = some c := by
  rw [Array.getElem?_toList]
  exact h
theorem filter_take {α β : Type} {xs : List α} {i : Nat} {c : α} (p : α → Bool) (f : α → β) (h : xs[i]? = some c) : ((xs.take (i + 1)).filter p).map f = ((xs.take i).filter p).map f ++ (if p c = true then [f c] else []) := by
  rw [List.take_add_one, h, List.filter_append, List.map_append]
  by_cases hp : p c = true
  · rw [if_pos hp]
    simp [hp]
  · rw [if_neg hp]
    simp [hp]
theorem all_filter {α : Type} (p : α → Bool) (xs : List α) : ((xs.filter fun c => !p c)).isEmpty = xs.all p := by
  induction xs with
  | nil => rfl
  | cons a r ih =>
    cases h : p a with
    | true => simp only [List.filter_cons, h, List.all_cons, Bool.not_true, Bool.true_and]; exact ih
    | false => simp [List.filter_cons, h, List.all_cons]
theorem isEmpty_map {α β : Type} (f : α → β) (xs : List α) : (xs.map f).isEmpty = xs.isEmpty := by
  cases xs <;> rfl
theorem str_at {ss : List Str} {i : Nat} {x : V} (h : (ss.map V.str)[i]? = some x) : ∃ y, x = .str y ∧ ss[i]? = some y ∧ y ∈ ss := by
  rw [List.getElem?_map] at h
  cases e : ss[i]? with
  | none =>
    rw [e] at h
    cases h
  | some y =>
    rw [e] at h
    cases h
    exact ⟨y, rfl, rfl, List.mem_of_getElem? e⟩
theorem cutV_map {α : Type} (f : α → V) (ns : List α) (lo hi : Option Int) : ∃ ms : List α, cutV (ns.map f) lo hi = ms.map f ∧ ms.length ≤ ns.length := by
  refine ⟨(ns.drop (HT.sIx ns.length 0 lo)).take (HT.sIx ns.length ns.length hi - HT.sIx ns.length 0 lo), ?_, ?_⟩
  · unfold cutV
    rw [List.length_map, List.map_take, List.map_drop]
  · rw [List.length_take, List.length_drop]
    omega
theorem int_at {ns : List Int} {i : Nat} {x : V} (h : (ns.map V.int)[i]? = some x) : ∃ n, x = .int n := by
  rw [List.getElem?_map] at h
  cases e : ns[i]? with
  | none =>
    rw [e] at h
    cases h
  | some y =>
    rw [e] at h
    cases h
    exact ⟨y, rfl⟩
theorem dp_bools {K : PySem.W.Frag} {H : Hp} : ∀ bs : List Bool, DpAll K H (bs.map V.bl) (bs.map PyData.bool)
  | [] => .nil
  | b :: r => .cons (.bl b) (dp_bools r)
theorem lay_bools : ∀ bs : List Bool, PyData.canLayAll0 (bs.map PyData.bool) = true
  | [] => rfl
  | _ :: r => by simp [PyData.canLayAll0, PyData.canLay0, lay_bools r]
theorem depth_bools : ∀ bs : List Bool, PyData.depthAll (bs.map PyData.bool) = 0
  | [] => rfl
  | _ :: r => by simp [PyData.depthAll, PyData.depth, depth_bools r]
theorem shaped_bools (bs : List Bool) : SeqAt.shaped (.list (bs.map PyData.bool)) = true := by
  simp [SeqAt.shaped, PyData.canLay0, PyData.depth, lay_bools, depth_bools]
theorem eqv_bools (bs : List Bool) : PyData.eqv (.list (bs.map PyData.bool)) (.list (bs.map PyData.bool)) = true := SeqAt.eqv_refl _ (by simp [PyData.canLay0, lay_bools])
def spLaw (K : PySem.W.Frag) : Sp := fun vs H Q _ => ∃ (a : Addr) (ns : List Int), vs = [.ref a] ∧ SqL K H a (ns.map V.int) ∧ ns.length ≤ 63 ∧ ∀ H', Q (.bl true) H'
/-! ### sorted(xs) of data that are alike, any length: the items by letters of a type B, their values, their data -/
section
variable {B : Type} {val : B → V} {enc : B → PyData}
theorem vals_each : ∀ {bs : List B} {us : List Value}, Vals (bs.map val) us → PySem.W.EachIs (fun u b => RelV (val b) u) us bs
  | [], _, r => by
    cases r
    exact .nil
  | b :: bs, _, r => by
    cases r with
    | cons h t => exact .cons h (vals_each t)
theorem each_vals : ∀ {bs : List B} {us : List Value}, PySem.W.EachIs (fun u b => RelV (val b) u) us bs → Vals (bs.map val) us
  | _, _, .nil => .nil
  | _, _, .cons h t => .cons h (each_vals t)
theorem each_reads {X : Cx} {pins : List (Addr × Obj)} {σ : L2.St} {H : Hp} {s : Shared} (I : Inv X pins σ H s) : ∀ {bs : List B} {us : List Value}, (∀ b ∈ bs, Dp X.K H (val b) (enc b)) → PySem.W.EachIs (fun u b => RelV (val b) u) us bs → PySem.W.EachIs (fun u b => ∃ as, Reads s.heap u (enc b) as) us bs
  | _, _, _, .nil => .nil
  | _, _, hd, .cons h t => .cons (Dp.reads I _ _ _ (hd _ (List.mem_cons_self ..)) h) (each_reads I (fun b hb => hd b (List.mem_cons_of_mem _ hb)) t)
def sortB (enc : B → PyData) (bs : List B) : List B := bs.mergeSort (PySem.W.dataLe false enc)
def rSortB (K : PySem.W.Frag) (val : B → V) (enc : B → PyData) : List V → Hp → VK → Prop := fun vs H Q => ∃ (a : Addr) (bs : List B), vs = [V.ref a] ∧ SqL K H a (bs.map val) ∧ (∀ b ∈ bs, Dp K H (val b) (enc b)) ∧ PySem.W.AllAlike (bs.map enc) ∧ PySem.W.Sortable (bs.map enc) ∧
  (∀ b ∈ bs, (enc b).depth ≤ 60) ∧ ∀ p, H p = none → Q (.ref p) (upd H p (.lst ((sortB enc bs).map val)))
theorem cr_sortB {X : Cx} (val : B → V) (enc : B → PyData) (hu : X.A.units + 64 < cLine) : CallR X (.builtin "sorted") (rSortB X.K val enc) := by
  intro pins s σ H vs us Q I r h
  obtain ⟨a, bs, rfl, hs, hd, ha, hk, hdp, q⟩ := h
  obtain ⟨its, rv, hl, hz⟩ := I.list hs
  rw [Vals.ref1 r]
  have e1 := vals_each rv
  rw [List.length_map] at hz
  refine PySem.W.sorted_data (enc := enc) hl.isList e1 (each_reads I hd e1) ha hk hz (fun b hb => by have := hdp b hb; omega) fun out ho eo => ?_
  obtain ⟨ep, he'⟩ := PyProof.Rows.sortedAll_at s.heap its out.toArray
  have hlen : ((sortB enc bs).map val).length ≤ sizeLine := by
    rw [List.length_map]
    unfold sortB
    rw [List.length_mergeSort]
    exact hz
  exact ⟨.ref _, upd H (s.heap.objs.size + 1) (.lst ((sortB enc bs).map val)), I.laid (t' := s.toks) (fun _ _ => PyProof.Rows.sortedAll_old) (Nat.le_succ _) ⟨hlen, out, ep, each_vals eo, he'⟩, rfl, q _ (I.hok.fresh (Nat.le_succ _))⟩
theorem sortB_perm (enc : B → PyData) (bs : List B) : (sortB enc bs).Perm bs := List.mergeSort_perm ..
theorem sortB_sorted (enc : B → PyData) (bs : List B) : (sortB enc bs).Pairwise fun a b => PySem.W.dataLe false enc a b = true := PySem.W.sort_pairwise (PySem.W.sortLe_total _ _ _) bs
end
theorem perm_sorted_eq {α : Type} {r : α → α → Prop} (anti : ∀ a b, r a b → r b a → a = b) : ∀ A B : List α, A.Pairwise r → B.Pairwise r → A.Perm B → A = B
  | [], B, _, _, h => (List.Perm.nil_eq h)
  | a :: A, [], _, _, h => absurd h.length_eq (by simp)
  | a :: A, b :: B, ha, hb, h => by
    have e : a = b := by
      rcases List.mem_cons.mp (h.mem_iff.mp (List.mem_cons_self ..)) with e | e
      · exact e
      · rcases List.mem_cons.mp (h.mem_iff.mpr (List.mem_cons_self ..)) with e' | e'
        · exact e'.symm
        · exact anti a b ((List.pairwise_cons.mp ha).1 b e') ((List.pairwise_cons.mp hb).1 a e)
    subst e
    rw [perm_sorted_eq anti A B (List.pairwise_cons.mp ha).2 (List.pairwise_cons.mp hb).2 (List.Perm.cons_inv h)]
/-! ### pairs of texts, in order -/
def ltS (a b : Str) : Prop := a.cps.toList < b.cps.toList
instance (a b : Str) : Decidable (ltS a b) := inferInstanceAs (Decidable (a.cps.toList < b.cps.toList))
theorem ltS_irr (a : Str) : ¬ ltS a a := List.lt_irrefl _
theorem ltS_trans {a b c : Str} (h : ltS a b) (h2 : ltS b c) : ltS a c := List.lt_trans h h2
theorem ltS_tri (a b : Str) : ltS a b ∨ a = b ∨ ltS b a := by
  by_cases h : ltS a b
  · exact .inl h
  · by_cases h2 : ltS b a
    · exact .inr (.inr h2)
    · exact .inr (.inl (PyProof.Rows.ext_toList (List.le_antisymm (List.not_lt.mp h2) (List.not_lt.mp h))))
def leSS (p q : Str × Str) : Prop := ltS p.1 q.1 ∨ (p.1 = q.1 ∧ ¬ ltS q.2 p.2)
theorem leSS_anti (p q : Str × Str) (h : leSS p q) (h2 : leSS q p) : p = q := by
  obtain ⟨a, b⟩ := p
  obtain ⟨c, d⟩ := q
  rcases h with h | ⟨e, h⟩
  · rcases h2 with h2 | ⟨e2, h2⟩
    · exact absurd (ltS_trans h h2) (ltS_irr _)
    · have e2' : c = a := e2
      subst e2'
      exact absurd h (ltS_irr _)
  · have e' : a = c := e
    subst e'
    rcases h2 with h2 | ⟨e2, h2⟩
    · exact absurd h2 (ltS_irr _)
    · rcases ltS_tri b d with x | x | x
      · exact absurd x h2
      · rw [x]
      · exact absurd x h
theorem dataLe_ss {B : Type} (x y : B → Str) (p q : B) (h : PySem.W.dataLe false (fun b => .tuple [.str (x b), .str (y b)]) p q = true) : leSS (x p, y p) (x q, y q) := by
  have e : PySem.W.dataLt (.tuple [.str (x q), .str (y q)]) (.tuple [.str (x p), .str (y p)]) = false := by
    have h' : (!PySem.W.dataLt (.tuple [.str (x q), .str (y q)]) (.tuple [.str (x p), .str (y p)])) = true := h
    simpa using h'
  rw [PySem.W.dataLt_pair (by simp [PySem.W.alike]) (by simp [PySem.W.alike]), PySem.W.dataLt_str, PySem.W.dataLt_str] at e
  simp only [PyData.eqv, beq_iff_eq] at e
  by_cases h1 : x q = x p
  · rw [if_pos h1] at e
    by_cases h2 : y q = y p
    · refine .inr ⟨h1.symm, fun z => ?_⟩
      have z' : ltS (y q) (y p) := z
      rw [h2] at z'
      exact ltS_irr _ z'
    · rw [if_neg h2] at e
      exact .inr ⟨h1.symm, of_decide_eq_false e⟩
  · rw [if_neg h1] at e
    rcases ltS_tri (x p) (x q) with z | z | z
    · exact .inl z
    · exact absurd z.symm h1
    · exact absurd z (of_decide_eq_false e)
end My
namespace My
open PySem PySem.Spec PyProof.Rows L2 TL
def Asc (z : Str) : Prop := ∀ c ∈ z.cps.toList, c < 128
instance (z : Str) : Decidable (Asc z) := inferInstanceAs (Decidable (∀ c ∈ z.cps.toList, c < 128))
theorem asc_mk {t : List Nat} (h : ∀ c ∈ t, c < 128) : Asc ⟨t.toArray⟩ := fun c hc => h c (by simpa using hc)
theorem asc_app {a b : Str} (ha : Asc a) (hb : Asc b) : Asc (a ++ b) := by
  intro c hc
  have e : (a ++ b).cps.toList = a.cps.toList ++ b.cps.toList := Array.toList_append
  rw [e] at hc
  rcases List.mem_append.mp hc with h | h
  · exact ha c h
  · exact hb c h
theorem asc_cut {z : Str} (h : Asc z) (lo hi : Option Int) : Asc (cutS z lo hi) := by
  refine asc_mk fun c hc => h c ?_
  exact List.mem_of_mem_drop (List.mem_of_mem_take hc)
theorem inV_strs (x : Str) (F : List Str) : inV (.str x) (F.map V.str) = decide (x ∈ F) := by
  unfold inV
  rw [List.any_map, Bool.eq_iff_iff, List.any_eq_true, decide_eq_true_iff]
  constructor
  · rintro ⟨y, hy, e⟩
    have e' : (y == x) = true := e
    rw [← eq_of_beq e']
    exact hy
  · intro h
    exact ⟨x, h, by show (x == x) = true; exact beq_self_eq_true x⟩
theorem flat_strs (F : List Str) : (F.map V.str).all flatV = true := by
  rw [List.all_map, List.all_eq_true]
  intro x _
  rfl
/-! ### texts as data -/
theorem dp_strs {K : PySem.W.Frag} {H : Hp} : ∀ F : List Str, DpAll K H (F.map V.str) (F.map PyData.str)
  | [] => .nil
  | b :: r => .cons (.str b) (dp_strs r)
theorem ok_asc {z : Str} (h : Asc z) : PyData.strOk z = true := by
  unfold PyData.strOk
  rw [Array.all_eq_true']
  intro c hc
  have : c < 128 := h c (by simpa using hc)
  exact decide_eq_true (by omega)
theorem lay_strs : ∀ F : List Str, (∀ z ∈ F, Asc z) → PyData.canLayAll0 (F.map PyData.str) = true
  | [], _ => rfl
  | z :: r, h => by simp [PyData.canLayAll0, PyData.canLay0, ok_asc (h z (List.mem_cons_self ..)), lay_strs r fun y hy => h y (List.mem_cons_of_mem _ hy)]
theorem depth_strs : ∀ F : List Str, PyData.depthAll (F.map PyData.str) = 0
  | [] => rfl
  | _ :: r => by simp [PyData.depthAll, PyData.depth, depth_strs r]
theorem shaped_strs (F : List Str) (h : ∀ z ∈ F, Asc z) : SeqAt.shaped (.list (F.map PyData.str)) = true := by
  simp [SeqAt.shaped, PyData.canLay0, PyData.depth, lay_strs F h, depth_strs]
end My
namespace My
open PySem PySem.Spec PyProof.Rows L2 TL
/-! ### calls with keywords: the parameters' values picked out of those that lack and those that are told -/
def pickKw {α : Type} : List (Nat ⊕ Nat) → List α → List α → List α
  | [], _, _ => []
  | .inl i :: r, mv, ws => (mv[i]?).toList ++ pickKw r mv ws
  | .inr i :: r, mv, ws => (ws[i]?).toList ++ pickKw r mv ws
theorem vals_opt {xs : List V} {us : List Value} (r : Vals xs us) (i : Nat) : (xs[i]? = none ∧ us[i]? = none) ∨ ∃ x u, xs[i]? = some x ∧ us[i]? = some u ∧ RelV x u := by
  cases e : xs[i]? with
  | some x =>
    obtain ⟨u, h, ru⟩ := r.get e
    exact .inr ⟨x, u, rfl, h, ru⟩
  | none =>
    have h := List.getElem?_eq_none_iff.mp e
    rw [r.length] at h
    exact .inl ⟨rfl, List.getElem?_eq_none_iff.mpr h⟩
theorem opt_vals {xs : List V} {us : List Value} (r : Vals xs us) (i : Nat) : Vals (xs[i]?).toList (us[i]?).toList := by
  rcases vals_opt r i with ⟨e1, e2⟩ | ⟨x, u, e1, e2, h⟩
  · rw [e1, e2]
    exact .nil
  · rw [e1, e2]
    exact .cons h .nil
theorem pick_vals {mz zs : List V} {mv ws : List Value} (r2 : Vals mz mv) (r3 : Vals zs ws) : ∀ sel : List (Nat ⊕ Nat), Vals (pickKw sel mz zs) (pickKw sel mv ws)
  | [] => .nil
  | .inl i :: r => (opt_vals r2 i).append (pick_vals r2 r3 r)
  | .inr i :: r => (opt_vals r3 i).append (pick_vals r2 r3 r)
theorem pick_rel (sel : List (Nat ⊕ Nat)) {vs mz zs : List V} {us mv ws : List Value} (r1 : Vals vs us) (r2 : Vals mz mv) (r3 : Vals zs ws) : Vals (vs ++ pickKw sel mz zs) (us ++ pickKw sel mv ws) := r1.append (pick_vals r2 r3 sel)
/-! ### an expression, a test, by what it gives: the rest is read once -/
section
variable {X : Cx}
def tPure (t : TE) : TE := fun σ H Q => ∃ v, t σ H (fun y H' => y = v ∧ H' = H) ∧ Q v H
theorem pe_pure {e : Expr} {t : TE} (h : PE X e t) : PE X e (tPure t) := by
  refine ⟨fun pins s σ H Q I hw => ?_⟩
  obtain ⟨v, h1, h2⟩ := hw
  refine thn (h.run pins s σ H _ I h1) fun u s1 ⟨x, H1, I1, r1, q1⟩ => ?_
  obtain ⟨rfl, rfl⟩ := q1
  exact ⟨x, H1, I1, r1, h2⟩
def tPureT (t : TT) : TT := fun σ H Q => ∃ b, t σ H (fun y H' => y = b ∧ H' = H) ∧ Q b H
theorem pt_pure {e : Expr} {t : TT} (h : PT X e t) : PT X e (tPureT t) := by
  refine ⟨fun pins s σ H Q I hw => ?_⟩
  obtain ⟨v, h1, h2⟩ := hw
  refine thn (h.run pins s σ H _ I h1) fun u s1 ⟨H1, I1, q1⟩ => ?_
  obtain ⟨rfl, rfl⟩ := q1
  exact ⟨H1, I1, h2⟩
def tMid (t : TE) : TE := fun σ H Q => ∃ R : VK, t σ H R ∧ ∀ v H', R v H' → Q v H'
theorem pe_mid {e : Expr} {t : TE} (h : PE X e t) : PE X e (tMid t) := by
  refine ⟨fun pins s σ H Q I hw => ?_⟩
  obtain ⟨R, h1, h2⟩ := hw
  exact thn (h.run pins s σ H _ I h1) fun u s1 ⟨x, H1, I1, r1, q1⟩ => ⟨x, H1, I1, r1, h2 _ _ q1⟩
def tMidT (t : TT) : TT := fun σ H Q => ∃ R : Bool → Hp → Prop, t σ H R ∧ ∀ b H', R b H' → Q b H'
theorem pt_mid {e : Expr} {t : TT} (h : PT X e t) : PT X e (tMidT t) := by
  refine ⟨fun pins s σ H Q I hw => ?_⟩
  obtain ⟨R, h1, h2⟩ := hw
  exact thn (h.run pins s σ H _ I h1) fun u s1 ⟨H1, I1, q1⟩ => ⟨H1, I1, h2 _ _ q1⟩
end
/-! ### fields -/
theorem len_putF (f : Str) (v : V) : ∀ fs : List (Str × V), (putF f v fs).length ≤ fs.length + 1
  | [] => Nat.le_refl _
  | (g, x) :: r => by
    unfold putF
    split
    · exact Nat.le_succ _
    · exact Nat.succ_le_succ (len_putF f v r)
theorem few {n : Nat} {f : Str} {v : V} {fs : List (Str × V)} (h : fs.length ≤ n) : (putF f v fs).length ≤ n + 1 := Nat.le_trans (len_putF f v fs) (Nat.succ_le_succ h)
theorem few0 : ([] : List (Str × V)).length ≤ 0 := Nat.le_refl _
theorem fewL {n m : Nat} (h : n ≤ m) (k : m < 1000) : n < 1000 := Nat.lt_of_le_of_lt h k
theorem ne_same {K : PySem.W.Frag} {H : Hp} {x y : V} {d : PyData} {Q : VK} (hx : Dp K H x d) (hy : Dp K H y d) (sh : SeqAt.shaped d = true) (q : Q (.bl false) H) : rNeD K x y H Q := by
  refine ⟨d, d, hx, hy, sh, sh, ?_⟩
  rw [SeqAt.eqv_refl _ (SeqAt.canLay_of_shaped sh)]
  exact q
theorem kit2 {K : PySem.W.Frag} {n m : String} {b : Bool} (h : kitB n m = some b) : PySem.W.kitOne K (.type n) (.type m) = some b := kit_ty h
def oV : Option Int → V
  | none => .non
  | some n => .int n
def od : Option Int → PyData
  | none => .none
  | some n => .int n
theorem dp_od {K : PySem.W.Frag} {H : Hp} (x : Option Int) : Dp K H (oV x) (od x) := by
  cases x with
  | none => exact .non
  | some n => exact .int n
end My
namespace My
open PySem PySem.Spec PyProof.Rows L2 TL
/-! ### min(xs, default=d), max(xs, default=d) of ints -/
def minI : List Int → Option Int
  | [] => none
  | n :: ns => some (ns.foldl min n)
def maxI : List Int → Option Int
  | [] => none
  | n :: ns => some (ns.foldl max n)
def orV (d : V) : Option Int → V
  | none => d
  | some m => .int m
theorem dp_ints {K : PySem.W.Frag} {H : Hp} : ∀ ns : List Int, DpAll K H (ns.map V.int) (ns.map PyData.int)
  | [] => .nil
  | b :: r => .cons (.int b) (dp_ints r)
theorem depth_ints : ∀ ns : List Int, PyData.depthAll (ns.map PyData.int) = 0
  | [] => rfl
  | _ :: r => by simp [PyData.depthAll, PyData.depth, depth_ints r]
theorem alike_ints (ns : List Int) : PySem.W.AlikeAll (ns.map PyData.int) := by
  refine ⟨fun x hx y hy => ?_, fun x hx => ?_⟩
  · obtain ⟨a, _, rfl⟩ := List.mem_map.mp hx
    obtain ⟨b, _, rfl⟩ := List.mem_map.mp hy
    simp [PySem.W.alike]
  · obtain ⟨a, _, rfl⟩ := List.mem_map.mp hx
    intro z
    cases z
def rDf (K : PySem.W.Frag) (f : List Int → Option Int) : List V → List V → Hp → VK → Prop := fun xs zs H Q => ∃ (a : Addr) (ns : List Int) (d : V), xs = [.ref a] ∧ zs = [d] ∧ SqL K H a (ns.map V.int) ∧ Q (orV d (f ns)) H
theorem cr_minDf {X : Cx} (hc : X.calm = true) (hu : X.A.units + 64 < cLine) : CallRK X (.builtin "min") ["default"] (rDf X.K minI) := by
  intro pins s σ H xs zs us ws Q I r rz h
  obtain ⟨a, ns, d, rfl, rfl, hs, q⟩ := h
  obtain ⟨its, rv, hl, _⟩ := I.list hs
  rw [Vals.ref1 r]
  obtain ⟨u, rfl, ru⟩ := rz.one
  obtain ⟨as, ra⟩ := Dp.readsAll I _ _ _ (dp_ints ns) rv
  refine PySem.W.min_list_default (xs := ns.map PyData.int) (I.ok.hd hc) hl.isList (by simpa using ra) (alike_ints ns) (by rw [depth_ints]; omega) (fun e h' tk hk => ?_) (fun y ys i v h' tk bs e hv rd hk => ?_)
  · cases ns with
    | nil => exact ⟨d, H, I.kept hk, ru, q⟩
    | cons n r => cases e
  · cases ns with
    | nil => cases e
    | cons n r =>
      cases e
      rw [PySem.W.minD_ints] at rd
      cases rd
      exact ⟨.int _, H, I.kept hk, ⟨_, rfl⟩, q⟩
theorem cr_maxDf {X : Cx} (hc : X.calm = true) (hu : X.A.units + 64 < cLine) : CallRK X (.builtin "max") ["default"] (rDf X.K maxI) := by
  intro pins s σ H xs zs us ws Q I r rz h
  obtain ⟨a, ns, d, rfl, rfl, hs, q⟩ := h
  obtain ⟨its, rv, hl, _⟩ := I.list hs
  rw [Vals.ref1 r]
  obtain ⟨u, rfl, ru⟩ := rz.one
  obtain ⟨as, ra⟩ := Dp.readsAll I _ _ _ (dp_ints ns) rv
  refine PySem.W.max_list_default (xs := ns.map PyData.int) (I.ok.hd hc) hl.isList (by simpa using ra) (alike_ints ns) (by rw [depth_ints]; omega) (fun e h' tk hk => ?_) (fun y ys i v h' tk bs e hv rd hk => ?_)
  · cases ns with
    | nil => exact ⟨d, H, I.kept hk, ru, q⟩
    | cons n r => cases e
  · cases ns with
    | nil => cases e
    | cons n r =>
      cases e
      rw [PySem.W.maxD_ints] at rd
      cases rd
      exact ⟨.int _, H, I.kept hk, ⟨_, rfl⟩, q⟩
/-! ### x is True, x is False, whatever x is -/
def rIsA : R2 := fun x y H Q => ∃ b : Bool, y = .bl b ∧ Q (.bl (decide (x = .bl b))) H
def rNotA : R2 := fun x y H Q => ∃ b : Bool, y = .bl b ∧ Q (.bl (!decide (x = .bl b))) H
theorem op_isA {X : Cx} : OpR X (compareOp .Is) rIsA := by
  intro pins s σ H x y v u Q I rx ry h
  obtain ⟨b, rfl, q⟩ := h
  cases (show u = Value.bool b from ry)
  cases x with
  | bl a =>
    cases (show v = Value.bool a from rx)
    by_cases e : a = b
    · subst e
      exact wpAny_is_self rfl ⟨.bl true, H, I, rfl, by simpa using q⟩
    · exact wpAny_is_other rfl (fun z => e (Value.bool.inj z)) ⟨.bl false, H, I, rfl, by simpa [e] using q⟩
  | non =>
    cases (show v = Value.none from rx)
    exact wpAny_is_other rfl (fun z => by cases z) ⟨.bl false, H, I, rfl, by simpa using q⟩
  | int i =>
    obtain ⟨t, rfl⟩ := rx
    exact wpAny_is_other rfl (fun z => by cases z) ⟨.bl false, H, I, rfl, by simpa using q⟩
  | str i =>
    obtain ⟨t, rfl⟩ := rx
    exact wpAny_is_other rfl (fun z => by cases z) ⟨.bl false, H, I, rfl, by simpa using q⟩
  | byt i =>
    obtain ⟨t, rfl⟩ := rx
    exact wpAny_is_other rfl (fun z => by cases z) ⟨.bl false, H, I, rfl, by simpa using q⟩
  | flt i =>
    obtain ⟨t, rfl⟩ := rx
    exact wpAny_is_other rfl (fun z => by cases z) ⟨.bl false, H, I, rfl, by simpa using q⟩
  | ref i =>
    cases (show v = Value.ref i from rx)
    exact wpAny_is_other rfl (fun z => by cases z) ⟨.bl false, H, I, rfl, by simpa using q⟩
  | ty i =>
    cases (show v = Value.type i from rx)
    exact wpAny_is_other rfl (fun z => by cases z) ⟨.bl false, H, I, rfl, by simpa using q⟩
theorem op_notA {X : Cx} : OpR X (compareOp .IsNot) rNotA := by
  intro pins s σ H x y v u Q I rx ry h
  obtain ⟨b, rfl, q⟩ := h
  cases (show u = Value.bool b from ry)
  cases x with
  | bl a =>
    cases (show v = Value.bool a from rx)
    by_cases e : a = b
    · subst e
      exact wpAny_isNot_self rfl ⟨.bl false, H, I, rfl, by simpa using q⟩
    · exact wpAny_isNot_other rfl (fun z => e (Value.bool.inj z)) ⟨.bl true, H, I, rfl, by simpa [e] using q⟩
  | non =>
    cases (show v = Value.none from rx)
    exact wpAny_isNot_other rfl (fun z => by cases z) ⟨.bl true, H, I, rfl, by simpa using q⟩
  | int i =>
    obtain ⟨t, rfl⟩ := rx
    exact wpAny_isNot_other rfl (fun z => by cases z) ⟨.bl true, H, I, rfl, by simpa using q⟩
  | str i =>
    obtain ⟨t, rfl⟩ := rx
    exact wpAny_isNot_other rfl (fun z => by cases z) ⟨.bl true, H, I, rfl, by simpa using q⟩
  | byt i =>
    obtain ⟨t, rfl⟩ := rx
    exact wpAny_isNot_other rfl (fun z => by cases z) ⟨.bl true, H, I, rfl, by simpa using q⟩
  | flt i =>
    obtain ⟨t, rfl⟩ := rx
    exact wpAny_isNot_other rfl (fun z => by cases z) ⟨.bl true, H, I, rfl, by simpa using q⟩
  | ref i =>
    cases (show v = Value.ref i from rx)
    exact wpAny_isNot_other rfl (fun z => by cases z) ⟨.bl true, H, I, rfl, by simpa using q⟩
  | ty i =>
    cases (show v = Value.type i from rx)
    exact wpAny_isNot_other rfl (fun z => by cases z) ⟨.bl true, H, I, rfl, by simpa using q⟩
end My
namespace Lx
open PySem PySem.Spec PyProof.Rows L2 TL
/-! ### readings of data: what must hold so that a value of which Q holds is given, or an error of which X holds is raised -/
structure Ex where
  C : Str
  fs : List (Str × PyData)
abbrev D (α : Type) := (α → Prop) → (Ex → Prop) → Prop
@[reducible] def D.pure {α : Type} (a : α) : D α := fun Q _ => Q a
@[reducible] def D.bind {α β : Type} (m : D α) (f : α → D β) : D β := fun Q X => m (fun a => f a Q X) X
@[reducible] def D.need {α : Type} (p : Prop) (m : D α) : D α := fun Q X => p ∧ m Q X
@[reducible] def D.any {α : Type} (p : α → Prop) : D α := fun Q _ => ∀ a, p a → Q a
@[reducible] def D.nox {γ : Type} (m : D γ) : D γ := fun Q _ => m Q (fun _ => False)
/-! ### data in a heap: the thing itself in J, what it is made of in I -/
structure Rp (α : Type) where
  top : Hp → Hp → V → α → Prop
  mono : ∀ {J J' I I' : Hp} {v : V} {a : α}, Same J J' → Same I I' → top J I v a → top J' I' v a
abbrev Rp.rep {α : Type} (R : Rp α) (I : Hp) (v : V) (a : α) : Prop := R.top I I v a
theorem Rp.mn {α : Type} (R : Rp α) {I I' : Hp} {v : V} {a : α} (s : Same I I') (h : R.rep I v a) : R.rep I' v a := R.mono s s h
theorem Rp.up {α : Type} (R : Rp α) {I J : Hp} {v : V} {a : α} (s : Same I J) (h : R.rep I v a) : R.top J I v a := R.mono s (Same.refl _) h
structure Rps (β : Type) where
  top : Hp → Hp → List V → β → Prop
  mono : ∀ {J J' I I' : Hp} {v : List V} {a : β}, Same J J' → Same I I' → top J I v a → top J' I' v a
abbrev Rps.rep {β : Type} (R : Rps β) (I : Hp) (v : List V) (a : β) : Prop := R.top I I v a
def rI : Rp Int := ⟨fun _ _ v n => v = .int n, fun _ _ h => h⟩
def rB : Rp Bool := ⟨fun _ _ v n => v = .bl n, fun _ _ h => h⟩
def rN : Rp Unit := ⟨fun _ _ v _ => v = .non, fun _ _ h => h⟩
def rS : Rp Str := ⟨fun _ _ v z => v = .str z ∧ My.Asc z ∧ z.length ≤ sizeLine, fun _ _ h => h⟩
/-- a sign, by its code -/
def rC : Rp Nat := ⟨fun _ _ v c => v = .str ⟨#[c]⟩ ∧ c < 128, fun _ _ h => h⟩
def rO {α : Type} (R : Rp α) : Rp (Option α) := ⟨fun J I v o => match o with | none => v = .non | some a => v ≠ .non ∧ R.top J I v a, fun {J J' I I' v o} s t h => by
  cases o with
  | none => exact h
  | some a => exact ⟨h.1, R.mono s t h.2⟩⟩
theorem prd_mono {α : Type} (R : Rp α) {I I' : Hp} (s : Same I I') {vs : List V} {xs : List α} (h : Paired (R.rep I) vs xs) : Paired (R.rep I') vs xs := Paired.mono (fun _ _ h => R.mn s h) h
theorem prd_len {α : Type} {R : V → α → Prop} {vs : List V} {xs : List α} (h : Paired R vs xs) : vs.length = xs.length := Paired.length h
def rL {α : Type} (R : Rp α) : Rp (List α) := ⟨fun J I v xs => ∃ a vs, v = .ref a ∧ J a = some (.lst vs) ∧ xs.length ≤ sizeLine ∧ Paired (R.rep I) vs xs, fun s t ⟨a, vs, e, h, l, p⟩ => ⟨a, vs, e, s _ _ h, l, prd_mono R t p⟩⟩
theorem Same.seqT {K : PySem.W.Frag} {H H' : Hp} {a : Addr} {xs : List V} (e : Same H H') (h : SqT K H a xs) : SqT K H' a xs := by
  rcases h with h | h
  · rcases h with h | ⟨o, h⟩
    · exact .inl (.inl (e _ _ h))
    · exact .inl (.inr ⟨o, e _ _ h⟩)
  · exact .inr h
/-- a list that is read alone (the script) -/
structure Scr (α : Type) where
  l : List α
def rScr (K : PySem.W.Frag) {α : Type} (R : Rp α) : Rp (Scr α) := ⟨fun J I v xs => ∃ a vs, v = .ref a ∧ SqL K J a vs ∧ xs.l.length ≤ sizeLine ∧ Paired (R.rep I) vs xs.l, fun s t ⟨a, vs, e, h, l, p⟩ => ⟨a, vs, e, s.seq h, l, prd_mono R t p⟩⟩
/-- tuples of any length -/
structure Tv (α : Type) where
  l : List α
  deriving DecidableEq
def rT (K : PySem.W.Frag) {α : Type} (R : Rp α) : Rp (Tv α) := ⟨fun J I v xs => ∃ a vs, v = .ref a ∧ SqT K J a vs ∧ xs.l.length ≤ sizeLine ∧ Paired (R.rep I) vs xs.l, fun s t ⟨a, vs, e, h, l, p⟩ => ⟨a, vs, e, Same.seqT s h, l, prd_mono R t p⟩⟩
/-- a list or a tuple -/
structure Sq (α : Type) where
  l : List α
def rQ (K : PySem.W.Frag) {α : Type} (R : Rp α) : Rp (Sq α) := ⟨fun J I v xs => ∃ a vs, v = .ref a ∧ (J a = some (.lst vs) ∨ SqT K J a vs) ∧ xs.l.length ≤ sizeLine ∧ Paired (R.rep I) vs xs.l, fun s t ⟨a, vs, e, h, l, p⟩ => ⟨a, vs, e, h.elim (fun h => .inl (s _ _ h)) (fun h => .inr (Same.seqT s h)), l, prd_mono R t p⟩⟩
/-- rows of things of unlike kinds -/
def rs0 : Rps Unit := ⟨fun _ _ vs _ => vs = [], fun _ _ h => h⟩
def rsC {α β : Type} (R : Rp α) (S : Rps β) : Rps (α × β) := ⟨fun J I vs b => ∃ v r, vs = v :: r ∧ R.top J I v b.1 ∧ S.top J I r b.2, fun s t ⟨v, r, e, h, k⟩ => ⟨v, r, e, R.mono s t h, S.mono s t k⟩⟩
/-- tuples of things of unlike kinds -/
structure Tu (β : Type) where
  r : β
  deriving DecidableEq
def rTu (K : PySem.W.Frag) {β : Type} (S : Rps β) : Rp (Tu β) := ⟨fun J I v t => ∃ a vs, v = .ref a ∧ SqT K J a vs ∧ S.rep I vs t.r, fun s t ⟨a, vs, e, h, k⟩ => ⟨a, vs, e, Same.seqT s h, S.mono t t k⟩⟩
/-- what no heap bears -/
def Rp.flat {α : Type} (R : Rp α) : Prop := ∀ J J' I I' v a, R.top J I v a → R.top J' I' v a
theorem flI : rI.flat := fun _ _ _ _ _ _ h => h
theorem flB : rB.flat := fun _ _ _ _ _ _ h => h
theorem flS : rS.flat := fun _ _ _ _ _ _ h => h
theorem flN : rN.flat := fun _ _ _ _ _ _ h => h
theorem flO {α : Type} {R : Rp α} (f : R.flat) : (rO R).flat := fun J J' I I' v o h => by
  cases o with
  | none => exact h
  | some a => exact ⟨h.1, f _ _ _ _ _ _ h.2⟩
/-! ### worlds: what never changes (I), what a slot owns (own), wells (wl) -/
structure Wd where
  I : Hp
  own : Addr → Option Nat
  wl : Addr → Option Nat
abbrev Wd.to (w : Wd) (I : Hp) : Wd := ⟨I, w.own, w.wl⟩
inductive Ck : Type → Type 1 where
  | p {α : Type} (R : Rp α) : Ck α
  | l {α : Type} (R : Rp α) : Ck (List α)
  | w (k : Nat) : Ck Unit
  | x : Ck Unit
structure Cell where
  {α : Type}
  K : Ck α
  i : Nat
  a : α
def Cell.holds (σ : L2.St) (w : Wd) (H : Hp) : Cell → Prop
  | ⟨.p R, i, a⟩ => ∃ v, σ[i]? = some (some v) ∧ R.rep w.I v a
  | ⟨.l R, i, a⟩ => ∃ v, σ[i]? = some (some v) ∧ ∃ L vs, v = .ref L ∧ w.own L = some i ∧ H L = some (.lst vs) ∧ a.length ≤ sizeLine ∧ Paired (R.rep w.I) vs a
  | ⟨.w k, i, _⟩ => ∃ v, σ[i]? = some (some v) ∧ ∃ (W : Addr) (ns : List Int), v = .ref W ∧ w.wl W = some i ∧ H W = some (.lst (ns.map V.int)) ∧ ns.length = k
  | ⟨.x, _, _⟩ => True
def look : List Cell → Nat → Option Cell
  | [], _ => none
  | c :: r, i => match Nat.beq c.i i with
    | true => some c
    | false => look r i
theorem look_i {i : Nat} {c : Cell} : ∀ {Γ : List Cell}, look Γ i = some c → c.i = i
  | d :: r, h => by
    unfold look at h
    cases e : Nat.beq d.i i with
    | true =>
      rw [e] at h
      cases h
      exact Nat.eq_of_beq_eq_true e
    | false =>
      rw [e] at h
      exact look_i h
def Hold (σ : L2.St) (w : Wd) (H : Hp) (Γ : List Cell) : Prop := ∀ i c, look Γ i = some c → c.holds σ w H
def Jn (w : Wd) (H : Hp) : Hp := fun b => if w.wl b = none then H b else none
def tp (j : Bool) (w : Wd) (I H : Hp) : Hp := match j with
  | true => Jn w H
  | false => I
/-- from a def's entry to here -/
structure Gf (w0 : Wd) (H0 : Hp) (w : Wd) (H : Hp) : Prop where
  i : Same w0.I w.I
  inew : ∀ b, H0 b ≠ none → w.I b = w0.I b
  onew : ∀ b, H0 b ≠ none → w.own b = none
  wnew : ∀ b, H0 b ≠ none → w.wl b = w0.wl b
  keep : ∀ b o, w0.wl b = none → H0 b = some o → H b = some o
  sub : Same w.I H
  apo : ∀ b i, w.own b = some i → w.I b = none ∧ H b ≠ none ∧ w.wl b = none
  apw : ∀ b i, w.wl b = some i → w.I b = none ∧ H b ≠ none
  wells : ∀ b i ns, w0.wl b = some i → H0 b = some (.lst (List.map V.int ns)) → ∃ ns' : List Int, H b = some (.lst (ns'.map V.int)) ∧ ns'.length = ns.length
  dom : ∀ b, H0 b ≠ none → H b ≠ none
/-- a step that changes wells alone -/
structure Go (w : Wd) (H : Hp) (I' H' : Hp) : Prop where
  i : Same w.I I'
  sub : Same I' H'
  new : ∀ b, H b ≠ none → I' b = w.I b
  kept : ∀ b o, w.wl b = none → H b = some o → H' b = some o
  wells : ∀ b i ns, w.wl b = some i → H b = some (.lst (List.map V.int ns)) → ∃ ns' : List Int, H' b = some (.lst (ns'.map V.int)) ∧ ns'.length = ns.length
  dom : ∀ b, H b ≠ none → H' b ≠ none
structure Fr where
  n : Nat
  w0 : Wd
  H0 : Hp
structure At (φ : Fr) (Γ : List Cell) (σ : L2.St) (w : Wd) (H : Hp) : Prop where
  go : Gf φ.w0 φ.H0 w H
  len : σ.length = φ.n
  hold : Hold σ w H Γ
/-- a step that only adds -/
structure Gw (I H I' H' : Hp) : Prop where
  i : Same I I'
  sub : Same I' H'
  h : Same H H'
  new : ∀ b, H b ≠ none → I' b = I b
theorem Gw.refl {I H : Hp} (s : Same I H) : Gw I H I H := ⟨Same.refl _, s, Same.refl _, fun _ _ => rfl⟩
theorem nn {H : Hp} {b : Addr} {o : HO} (h : H b = some o) : H b ≠ none := by rw [h]; exact fun e => nomatch e
theorem sm {H : Hp} {b : Addr} (h : H b ≠ none) : ∃ o, H b = some o := by
  cases e : H b with
  | none => exact absurd e h
  | some o => exact ⟨o, rfl⟩
theorem Same.nn {H H' : Hp} (s : Same H H') {b : Addr} (h : H b ≠ none) : H' b ≠ none := by
  obtain ⟨o, e⟩ := sm h
  exact Lx.nn (s _ _ e)
theorem Gw.trans {I H I1 H1 I2 H2 : Hp} (a : Gw I H I1 H1) (b : Gw I1 H1 I2 H2) : Gw I H I2 H2 :=
  ⟨a.i.trans b.i, b.sub, a.h.trans b.h, fun c hc => (b.new c (Same.nn a.h hc)).trans (a.new c hc)⟩
theorem Gw.new1 {I H : Hp} {p : Addr} (s : Same I H) (hp : H p = none) (o : HO) : Gw I H (upd I p o) (upd H p o) := by
  have ip : I p = none := s.free hp
  refine ⟨My.same_upd ip, fun b u e => ?_, My.same_upd hp, fun b hb => ?_⟩
  · by_cases q : b = p
    · subst q
      rw [upd_same] at e ⊢
      exact e
    · rw [upd_ne q] at e ⊢
      exact s _ _ e
  · rw [upd_ne (fun q => hb (by rw [q]; exact hp))]
theorem Go.trans {w : Wd} {H I1 H1 I2 H2 : Hp} (a : Go w H I1 H1) (b : Go (w.to I1) H1 I2 H2) : Go w H I2 H2 :=
  ⟨a.i.trans b.i, b.sub, fun c h => (b.new c (a.dom c h)).trans (a.new c h), fun c o n h => b.kept c o n (a.kept c o n h), fun c i ns h1 h2 => by
    obtain ⟨n1, e1, l1⟩ := a.wells c i ns h1 h2
    obtain ⟨n2, e2, l2⟩ := b.wells c i n1 h1 e1
    exact ⟨n2, e2, l2.trans l1⟩, fun c h => b.dom c (a.dom c h)⟩
theorem Go.of_gw {w : Wd} {H I' H' : Hp} (g : Gw w.I H I' H') : Go w H I' H' := ⟨g.i, g.sub, g.new, fun b o _ h => g.h b o h, fun b i ns _ h => ⟨ns, g.h _ _ h, rfl⟩, fun b h => Same.nn g.h h⟩
theorem Gf.go {w0 w : Wd} {H0 H I' H' : Hp} (a : Gf w0 H0 w H) (b : Go w H I' H') : Gf w0 H0 (w.to I') H' :=
  ⟨a.i.trans b.i, fun c h => (b.new c (a.dom c h)).trans (a.inew c h), a.onew, a.wnew, fun c o n h => b.kept c o ((a.wnew c (nn h)).trans n) (a.keep c o n h), b.sub,
    fun c i h => ⟨(b.new c (a.apo c i h).2.1).trans (a.apo c i h).1, b.dom c (a.apo c i h).2.1, (a.apo c i h).2.2⟩, fun c i h => ⟨(b.new c (a.apw c i h).2).trans (a.apw c i h).1, b.dom c (a.apw c i h).2⟩, fun c i ns h1 h2 => by
    obtain ⟨n1, e1, l1⟩ := a.wells c i ns h1 h2
    obtain ⟨n2, e2, l2⟩ := b.wells c i n1 ((a.wnew c (nn h2)).trans h1) e1
    exact ⟨n2, e2, l2.trans l1⟩, fun c h => b.dom c (a.dom c h)⟩
theorem holds_go {w0 w : Wd} {H0 H I' H' : Hp} {σ : L2.St} (a : Gf w0 H0 w H) (b : Go w H I' H') {c : Cell} (h : c.holds σ w H) : c.holds σ (w.to I') H' := by
  obtain ⟨K, i, x⟩ := c
  cases K with
  | p R =>
    obtain ⟨v, e, k⟩ := h
    exact ⟨v, e, R.mn b.i k⟩
  | l R =>
    obtain ⟨v, e, L, vs, e1, e2, e3, e4, e5⟩ := h
    exact ⟨v, e, L, vs, e1, e2, b.kept _ _ (a.apo L i e2).2.2 e3, e4, prd_mono R b.i e5⟩
  | w k =>
    obtain ⟨v, e, W, ns, e1, e2, e3, e4⟩ := h
    obtain ⟨ns', f1, f2⟩ := b.wells W i ns e2 e3
    exact ⟨v, e, W, ns', e1, e2, f1, f2.trans e4⟩
  | x => exact h
theorem At.step {φ : Fr} {Γ : List Cell} {σ : L2.St} {w : Wd} {H I' H' : Hp} (a : At φ Γ σ w H) (g : Go w H I' H') : At φ Γ σ (w.to I') H' := ⟨a.go.go g, a.len, fun i c h => holds_go a.go g (a.hold i c h)⟩
theorem Go.rf {w : Wd} {H : Hp} (s : Same w.I H) : Go w H w.I H := .of_gw (.refl s)
theorem jn_some {w : Wd} {H : Hp} {b : Addr} {o : HO} : Jn w H b = some o ↔ w.wl b = none ∧ H b = some o := by
  unfold Jn
  by_cases e : w.wl b = none
  · rw [if_pos e]
    exact ⟨fun h => ⟨e, h⟩, fun h => h.2⟩
  · rw [if_neg e]
    exact ⟨(fun h => nomatch h), fun h => absurd h.1 e⟩
theorem i_jn {w0 w : Wd} {H0 H : Hp} (g : Gf w0 H0 w H) : Same w.I (Jn w H) := fun b o e => by
  refine jn_some.mpr ⟨?_, g.sub _ _ e⟩
  cases q : w.wl b with
  | none => rfl
  | some i =>
    rw [(g.apw b i q).1] at e
    cases e
theorem i_tp {w0 w : Wd} {H0 H : Hp} (j : Bool) (g : Gf w0 H0 w H) : Same w.I (tp j w w.I H) := by
  cases j with
  | true => exact i_jn g
  | false => exact Same.refl _
theorem tp_sub {j : Bool} {w : Wd} {I H : Hp} (s : Same I H) : Same (tp j w I H) H := by
  cases j with
  | true => exact fun b o e => (jn_some.mp e).2
  | false => exact s
theorem tp_go {j : Bool} {w : Wd} {H I' H' : Hp} (g : Go w H I' H') : Same (tp j w w.I H) (tp j w I' H') := by
  cases j with
  | true =>
    intro b o e
    obtain ⟨e1, e2⟩ := jn_some.mp e
    exact jn_some.mpr ⟨e1, g.kept b o e1 e2⟩
  | false => exact g.i
def Ex.rep (e : Ex) (K : PySem.W.Frag) (mg : Str → Option Value) (I : Hp) (c : Value) (d : Option Addr) : Prop := mg e.C = some c ∧ ∃ dx vs, d = some dx ∧ I dx = some (.xd vs) ∧ Paired (fun (p : Str × V) (q : Str × PyData) => p.1 = q.1 ∧ Dp K I p.2 q.2) vs e.fs
/-- the place of a body: the written part, its module's names, what is wanted of an error, how many slots -/
structure Px where
  K : PySem.W.Frag
  mg : Str → Option Value
  E : XK
  n : Nat
section
variable {Z : Px} {j : Bool} {Γ : List Cell} {α β γ δ : Type}
/-- an expression -/
def SE (Z : Px) (j : Bool) (Γ : List Cell) (t : TE) (R : Rp α) (m : D α) : Prop :=
  ∀ (φ : Fr) (σ : L2.St) (w : Wd) (H : Hp) (Q : VK) (P : α → Prop) (X : Ex → Prop), φ.n = Z.n → At φ Γ σ w H → m P X →
    (∀ a v I' H', P a → Go w H I' H' → R.top (tp j w I' H') I' v a → Q v H') →
    (∀ e c d I' H', X e → Go w H I' H' → e.rep Z.K Z.mg I' c d → Z.E c d H') → t σ H Q
def ST (Z : Px) (Γ : List Cell) (t : TT) (m : D Bool) : Prop :=
  ∀ (φ : Fr) (σ : L2.St) (w : Wd) (H : Hp) (Q : Bool → Hp → Prop) (P : Bool → Prop) (X : Ex → Prop), φ.n = Z.n → At φ Γ σ w H → m P X →
    (∀ a I' H', P a → Go w H I' H' → Q a H') →
    (∀ e c d I' H', X e → Go w H I' H' → e.rep Z.K Z.mg I' c d → Z.E c d H') → t σ H Q
def SA (Z : Px) (j : Bool) (Γ : List Cell) (t : TA) (S : Rps β) (m : D β) : Prop :=
  ∀ (φ : Fr) (σ : L2.St) (w : Wd) (H : Hp) (Q : List V → Hp → Prop) (P : β → Prop) (X : Ex → Prop), φ.n = Z.n → At φ Γ σ w H → m P X →
    (∀ a v I' H', P a → Go w H I' H' → S.top (tp j w I' H') I' v a → Q v H') →
    (∀ e c d I' H', X e → Go w H I' H' → e.rep Z.K Z.mg I' c d → Z.E c d H') → t σ H Q
theorem xg {X : Ex → Prop} {w : Wd} {H I1 H1 : Hp} (g : Go w H I1 H1) (x : ∀ e c d I' H', X e → Go w H I' H' → e.rep Z.K Z.mg I' c d → Z.E c d H') : ∀ e c d I' H', X e → Go (w.to I1) H1 I' H' → e.rep Z.K Z.mg I' c d → Z.E c d H' := fun e c d w' H' a b r => x e c d w' H' a (g.trans b) r
theorem At.rf {φ : Fr} {σ : L2.St} {w : Wd} {H : Hp} (a : At φ Γ σ w H) : Go w H w.I H := .rf a.go.sub
theorem se_c {v : V} {R : Rp α} {a : α} (h : ∀ J I, R.top J I v a) : SE Z j Γ (tC v) R (D.pure a) := fun φ σ w H Q P X hn hA hm k _ => k a v w.I H hm hA.rf (h _ _)
theorem se_int {i : Int} : SE Z j Γ (tC (.int i)) rI (D.pure i) := se_c fun _ _ => rfl
theorem se_bl {b : Bool} : SE Z j Γ (tC (.bl b)) rB (D.pure b) := se_c fun _ _ => rfl
theorem se_non : SE Z j Γ (tC .non) rN (D.pure ()) := se_c fun _ _ => rfl
theorem se_noneO {R : Rp α} : SE Z j Γ (tC .non) (rO R) (D.pure none) := se_c fun _ _ => rfl
theorem se_intO {i : Int} : SE Z j Γ (tC (.int i)) (rO rI) (D.pure (some i)) := se_c fun _ _ => (show V.int i ≠ .non ∧ V.int i = .int i from And.intro (fun e => by cases e) rfl)
theorem se_str {z : Str} (l : My.Asc z ∧ z.length ≤ 1000 := by decide) : SE Z j Γ (tC (.str z)) rS (D.pure z) := se_c fun _ _ => ⟨rfl, l.1, Nat.le_trans l.2 (by decide)⟩
theorem se_var {i : Nat} {R : Rp α} {a : α} (h : look Γ i = some ⟨.p R, i, a⟩) : SE Z j Γ (tVar i) R (D.pure a) := fun φ σ w H Q P X hn hA hm k _ => by
  obtain ⟨v, e, r⟩ := hA.hold i _ h
  exact ⟨v, e, k a v w.I H hm hA.rf (R.up (i_tp j hA.go) r)⟩
/-- a list of the slot's own, read -/
theorem se_varl {i : Nat} {R : Rp α} {a : List α} (h : look Γ i = some ⟨.l R, i, a⟩) : SE Z true Γ (tVar i) (rL R) (D.pure a) := fun φ σ w H Q P X hn hA hm k _ => by
  obtain ⟨v, e, L, vs, rfl, e2, e3, e4, e5⟩ := hA.hold i _ h
  exact ⟨_, e, k a _ w.I H hm hA.rf ⟨L, vs, rfl, jn_some.mpr ⟨(hA.go.apo L i e2).2.2, e3⟩, e4, e5⟩⟩
theorem SE.down {t : TE} {R : Rp α} {m : D α} (f : R.flat) (h : SE Z true Γ t R m) : SE Z j Γ t R m := fun φ σ w H Q P X hn hA hm k x => h φ σ w H Q P X hn hA hm (fun a v w' H' pa g r => k a v w' H' pa g (f _ _ _ _ _ _ r)) x
theorem SE.up {t : TE} {R : Rp α} {m : D α} (h : SE Z false Γ t R m) : SE Z j Γ t R m := fun φ σ w H Q P X hn hA hm k x => h φ σ w H Q P X hn hA hm (fun a v I' H' pa g r => k a v I' H' pa g (R.up (i_tp (w := w.to I') j (hA.go.go g)) r)) x
/-- another form of the same data -/
theorem SE.map {t : TE} {R : Rp α} {R' : Rp β} {m : D α} {f : α → β} (c : ∀ J I v a, R.top J I v a → R'.top J I v (f a)) (h : SE Z j Γ t R m) : SE Z j Γ t R' (D.bind m fun a => D.pure (f a)) := fun φ σ w H Q P X hn hA hm k x =>
  h φ σ w H Q _ X hn hA hm (fun a v I' H' pb s r => k _ v I' H' pb s (c _ _ _ _ r)) x
/-- the same data by another name, where something holds -/
theorem SE.cast {t : TE} {R : Rp α} {R' : Rp β} {m : D α} {f : α → D β} (c : ∀ J I v a P X, R.top J I v a → f a P X → ∃ b, P b ∧ R'.top J I v b) (h : SE Z j Γ t R m) : SE Z j Γ t R' (D.bind m f) := fun φ σ w H Q P X hn hA hm k x =>
  h φ σ w H Q _ X hn hA hm (fun a v I' H' pb s r => by
    obtain ⟨b, pb', rb⟩ := c _ _ _ _ _ _ r pb
    exact k b v I' H' pb' s rb) x
/-! ### operators -/
def RO2 (r : R2) (A : Rp α) (B : Rp β) (C : Rp γ) (k : α → β → D γ) : Prop := ∀ (J I H : Hp) (v u : V) (a : α) (b : β) (Q : VK) (P : γ → Prop) (X : Ex → Prop), Same I J → Same J H → A.top J I v a → B.top J I u b → k a b P X →
  (∀ c x I' H', P c → Gw I H I' H' → C.rep I' x c → Q x H') → r v u H Q
theorem se_op {r : R2} {A : Rp α} {B : Rp β} {C : Rp γ} {k : α → β → D γ} {ta tb : TE} {ma : D α} {mb : D β} (ro : RO2 r A B C k) (ha : SE Z true Γ ta A ma) (hb : SE Z true Γ tb B mb) : SE Z j Γ (tOp r ta tb) C (D.bind ma fun a => D.bind mb fun b => k a b) := fun φ σ w H Q P X hn hA hm kk x =>
  ha φ σ w H _ _ X hn hA hm (fun a v I1 H1 pa s1 ra => hb φ σ (w.to I1) H1 _ _ X hn (hA.step s1) pa (fun b u I2 H2 pb s2 rb => ro (Jn w H2) I2 H2 v u a b Q P X (i_jn (w := w.to I2) (hA.step (s1.trans s2)).go) (tp_sub (j := true) s2.sub) (A.mono (tp_go (w := w.to I1) (j := true) s2) s2.i ra) rb pb fun c y I' H' pc g rc =>
    kk c y I' H' pc ((s1.trans s2).trans (.of_gw g)) (C.up (i_tp (w := w.to I') j (hA.step ((s1.trans s2).trans (.of_gw g))).go) rc)) (xg s1 x)) x
def RO1 (r : V → Hp → VK → Prop) (A : Rp α) (C : Rp γ) (k : α → D γ) : Prop := ∀ (J I H : Hp) (v : V) (a : α) (Q : VK) (P : γ → Prop) (X : Ex → Prop), Same I J → Same J H → A.top J I v a → k a P X →
  (∀ c x I' H', P c → Gw I H I' H' → C.rep I' x c → Q x H') → r v H Q
theorem se_un {r : V → Hp → VK → Prop} {A : Rp α} {C : Rp γ} {k : α → D γ} {ta : TE} {ma : D α} (ro : RO1 r A C k) (ha : SE Z true Γ ta A ma) : SE Z j Γ (tUn r ta) C (D.bind ma k) := fun φ σ w H Q P X hn hA hm kk x =>
  ha φ σ w H _ _ X hn hA hm (fun a v I1 H1 pa s1 ra => ro (Jn w H1) I1 H1 v a Q P X (i_jn (w := w.to I1) (hA.step s1).go) (tp_sub (j := true) s1.sub) ra pa fun c y I' H' pc g rc =>
    kk c y I' H' pc (s1.trans (.of_gw g)) (C.up (i_tp (w := w.to I') j (hA.step (s1.trans (.of_gw g))).go) rc)) x
/-- arguments of a built-in -/
def ROA (r : List V → Hp → VK → Prop) (S : Rps β) (C : Rp γ) (k : β → D γ) : Prop := ∀ (J I H : Hp) (vs : List V) (b : β) (Q : VK) (P : γ → Prop) (X : Ex → Prop), Same I J → Same J H → S.top J I vs b → k b P X →
  (∀ c x I' H', P c → Gw I H I' H' → C.rep I' x c → Q x H') → r vs H Q
theorem se_cb {r : List V → Hp → VK → Prop} {S : Rps β} {C : Rp γ} {k : β → D γ} {t : TA} {m : D β} (ro : ROA r S C k) (h : SA Z true Γ t S m) : SE Z j Γ (tCB r t) C (D.bind m k) := fun φ σ w H Q P X hn hA hm kk x =>
  h φ σ w H _ _ X hn hA hm (fun a v I1 H1 pa s1 ra => ro (Jn w H1) I1 H1 v a Q P X (i_jn (w := w.to I1) (hA.step s1).go) (tp_sub (j := true) s1.sub) ra pa fun c y I' H' pc g rc =>
    kk c y I' H' pc (s1.trans (.of_gw g)) (C.up (i_tp (w := w.to I') j (hA.step (s1.trans (.of_gw g))).go) rc)) x
/-- two rows of arguments (by place, by keyword) -/
def ROK (r : List V → List V → Hp → VK → Prop) (S : Rps β) (S2 : Rps δ) (C : Rp γ) (k : β → δ → D γ) : Prop := ∀ (J I H : Hp) (vs us : List V) (b : β) (d : δ) (Q : VK) (P : γ → Prop) (X : Ex → Prop), Same I J → Same J H → S.top J I vs b → S2.top J I us d → k b d P X →
  (∀ c x I' H', P c → Gw I H I' H' → C.rep I' x c → Q x H') → r vs us H Q
theorem se_ck {r : List V → List V → Hp → VK → Prop} {S : Rps β} {S2 : Rps δ} {C : Rp γ} {k : β → δ → D γ} {t u : TA} {m : D β} {m2 : D δ} (ro : ROK r S S2 C k) (ha : SA Z true Γ t S m) (hb : SA Z true Γ u S2 m2) : SE Z j Γ (tCKw r t u) C (D.bind m fun a => D.bind m2 fun b => k a b) := fun φ σ w H Q P X hn hA hm kk x =>
  ha φ σ w H _ _ X hn hA hm (fun a v I1 H1 pa s1 ra => hb φ σ (w.to I1) H1 _ _ X hn (hA.step s1) pa (fun b u I2 H2 pb s2 rb => ro (Jn w H2) I2 H2 v u a b Q P X (i_jn (w := w.to I2) (hA.step (s1.trans s2)).go) (tp_sub (j := true) s2.sub) (S.mono (tp_go (w := w.to I1) (j := true) s2) s2.i ra) rb pb fun c y I' H' pc g rc =>
    kk c y I' H' pc ((s1.trans s2).trans (.of_gw g)) (C.up (i_tp (w := w.to I') j (hA.step ((s1.trans s2).trans (.of_gw g))).go) rc)) (xg s1 x)) x
/-- a method of a built-in type -/
def ROM (r : V → List V → Hp → VK → Prop) (A : Rp α) (S : Rps β) (C : Rp γ) (k : α → β → D γ) : Prop := ∀ (J I H : Hp) (v : V) (us : List V) (a : α) (b : β) (Q : VK) (P : γ → Prop) (X : Ex → Prop), Same I J → Same J H → A.top J I v a → S.top J I us b → k a b P X →
  (∀ c x I' H', P c → Gw I H I' H' → C.rep I' x c → Q x H') → r v us H Q
def TyR (K : PySem.W.Frag) (T : String) (A : Rp α) : Prop := ∀ (J I H : Hp) (v : V) (a : α), Same J H → A.top J I v a → tyV K T v H
theorem se_bm {T : String} {r : V → List V → Hp → VK → Prop} {A : Rp α} {S : Rps β} {C : Rp γ} {k : α → β → D γ} {to : TE} {t : TA} {ma : D α} {mb : D β} (ty : TyR Z.K T A) (ro : ROM r A S C k) (ha : SE Z true Γ to A ma) (hb : SA Z true Γ t S mb) : SE Z j Γ (tBM Z.K T r to t) C (D.bind ma fun a => D.bind mb fun b => k a b) := fun φ σ w H Q P X hn hA hm kk x =>
  ha φ σ w H _ _ X hn hA hm (fun a v I1 H1 pa s1 ra => ⟨ty _ _ H1 v a (tp_sub (j := true) s1.sub) ra, hb φ σ (w.to I1) H1 _ _ X hn (hA.step s1) pa (fun b u I2 H2 pb s2 rb => ro (Jn w H2) I2 H2 v u a b Q P X (i_jn (w := w.to I2) (hA.step (s1.trans s2)).go) (tp_sub (j := true) s2.sub) (A.mono (tp_go (w := w.to I1) (j := true) s2) s2.i ra) rb pb fun c y I' H' pc g rc =>
    kk c y I' H' pc ((s1.trans s2).trans (.of_gw g)) (C.up (i_tp (w := w.to I') j (hA.step ((s1.trans s2).trans (.of_gw g))).go) rc)) (xg s1 x)⟩) x
theorem se_m1 {r : V → List V → Hp → VK → Prop} {B : Rp β} {C : Rp γ} {k : Str → β × Unit → D γ} {to te : TE} {ma : D Str} {mb : D β} (ro : ROM r rS (rsC B rs0) C k) (ha : SE Z true Γ to rS ma) (hb : SE Z true Γ te B mb) : SE Z j Γ (tM1 r to te) C (D.bind ma fun a => D.bind mb fun b => k a (b, ())) := fun φ σ w H Q P X hn hA hm kk x =>
  ha φ σ w H _ _ X hn hA hm (fun a v I1 H1 pa s1 ra => ⟨⟨a, ra.1⟩, hb φ σ (w.to I1) H1 _ _ X hn (hA.step s1) pa (fun b u I2 H2 pb s2 rb => ro (Jn w H2) I2 H2 v [u] a (b, ()) Q P X (i_jn (w := w.to I2) (hA.step (s1.trans s2)).go) (tp_sub (j := true) s2.sub) ra ⟨u, [], rfl, rb, rfl⟩ pb fun c y I' H' pc g rc =>
    kk c y I' H' pc ((s1.trans s2).trans (.of_gw g)) (C.up (i_tp (w := w.to I') j (hA.step ((s1.trans s2).trans (.of_gw g))).go) rc)) (xg s1 x)⟩) x
theorem se_m0 {r : V → List V → Hp → VK → Prop} {C : Rp γ} {k : Str → Unit → D γ} {to : TE} {ma : D Str} (ro : ROM r rS rs0 C k) (ha : SE Z true Γ to rS ma) : SE Z j Γ (tM0 r to) C (D.bind ma fun a => k a ()) := fun φ σ w H Q P X hn hA hm kk x =>
  ha φ σ w H _ _ X hn hA hm (fun a v I1 H1 pa s1 ra => ⟨⟨a, ra.1⟩, ro (Jn w H1) I1 H1 v [] a () Q P X (i_jn (w := w.to I1) (hA.step s1).go) (tp_sub (j := true) s1.sub) ra rfl pa fun c y I' H' pc g rc =>
    kk c y I' H' pc (s1.trans (.of_gw g)) (C.up (i_tp (w := w.to I') j (hA.step (s1.trans (.of_gw g))).go) rc)⟩) x
/-! ### tests -/
theorem st_test {t : TE} {m : D Bool} (h : SE Z true Γ t rB m) : ST Z Γ (tTest t) m := fun φ σ w H Q P X hn hA hm k x => h φ σ w H _ P X hn hA hm (fun a v I' H' pa s r => ⟨a, r, k a I' H' pa s⟩) x
theorem st_val {t : TE} {m : D Bool} (h : SE Z true Γ t rB m) : ST Z Γ (tB t) m := fun φ σ w H Q P X hn hA hm k x => h φ σ w H _ P X hn hA hm (fun a v I' H' pa s r => ⟨a, r, k a I' H' pa s⟩) x
theorem st_yes : ST Z Γ tYes (D.pure true) := fun φ σ w H Q P X hn hA hm k x => k true w.I H hm hA.rf
theorem st_not {t : TT} {m : D Bool} (h : ST Z Γ t m) : ST Z Γ (tNot t) (D.bind m fun b => D.pure (!b)) := fun φ σ w H Q P X hn hA hm k x => h φ σ w H _ _ X hn hA hm (fun a I' H' pa s => k _ I' H' pa s) x
theorem st_and {t u : TT} {m m2 : D Bool} (h : ST Z Γ t m) (h' : ST Z Γ u m2) : ST Z Γ (tAnd t u) (fun P X => m (fun b => if b = true then m2 P X else P false) X) := fun φ σ w H Q P X hn hA hm k x => h φ σ w H _ _ X hn hA hm (fun a I' H' pa s => by
  cases a with
  | true => exact h' φ σ (w.to I') H' _ P X hn (hA.step s) pa (fun b I2 H2 pb s2 => k b I2 H2 pb (s.trans s2)) (xg s x)
  | false => exact k false I' H' pa s) x
theorem st_or {t u : TT} {m m2 : D Bool} (h : ST Z Γ t m) (h' : ST Z Γ u m2) : ST Z Γ (tOr t u) (fun P X => m (fun b => if b = true then P true else m2 P X) X) := fun φ σ w H Q P X hn hA hm k x => h φ σ w H _ _ X hn hA hm (fun a I' H' pa s => by
  cases a with
  | false => exact h' φ σ (w.to I') H' _ P X hn (hA.step s) pa (fun b I2 H2 pb s2 => k b I2 H2 pb (s.trans s2)) (xg s x)
  | true => exact k true I' H' pa s) x
theorem st_andp {t u : TT} {a b : Bool} (h : ST Z Γ t (D.pure a)) (h' : ST Z Γ u (D.pure b)) : ST Z Γ (tAnd t u) (D.pure (a && b)) := by
  cases a with
  | true => exact st_and h h'
  | false => exact st_and h h'
theorem st_orp {t u : TT} {a b : Bool} (h : ST Z Γ t (D.pure a)) (h' : ST Z Γ u (D.pure b)) : ST Z Γ (tOr t u) (D.pure (a || b)) := by
  cases a with
  | true => exact st_or h h'
  | false => exact st_or h h'
theorem se_not {t : TE} {m : D Bool} (h : SE Z true Γ t rB m) : SE Z j Γ (tNotV t) rB (D.bind m fun b => D.pure (!b)) := fun φ σ w H Q P X hn hA hm k x => h φ σ w H _ _ X hn hA hm (fun a v I' H' pa s r => ⟨a, r, k _ _ I' H' pa s rfl⟩) x
theorem se_and {t u : TE} {m m2 : D Bool} (h : SE Z true Γ t rB m) (h' : SE Z true Γ u rB m2) : SE Z j Γ (tAndV t u) rB (fun P X => m (fun b => if b = true then m2 P X else P false) X) := fun φ σ w H Q P X hn hA hm k x => h φ σ w H _ _ X hn hA hm (fun a v I' H' pa s r => ⟨a, r, by
  cases a with
  | true => exact h' φ σ (w.to I') H' _ P X hn (hA.step s) pa (fun b u I2 H2 pb s2 rb => k b u I2 H2 pb (s.trans s2) rb) (xg s x)
  | false => exact k false _ I' H' pa s rfl⟩) x
theorem se_or {t u : TE} {m m2 : D Bool} (h : SE Z true Γ t rB m) (h' : SE Z true Γ u rB m2) : SE Z j Γ (tOrV t u) rB (fun P X => m (fun b => if b = true then P true else m2 P X) X) := fun φ σ w H Q P X hn hA hm k x => h φ σ w H _ _ X hn hA hm (fun a v I' H' pa s r => ⟨a, r, by
  cases a with
  | false => exact h' φ σ (w.to I') H' _ P X hn (hA.step s) pa (fun b u I2 H2 pb s2 rb => k b u I2 H2 pb (s.trans s2) rb) (xg s x)
  | true => exact k true _ I' H' pa s rfl⟩) x
theorem se_andp {t u : TE} {a b : Bool} (h : SE Z true Γ t rB (D.pure a)) (h' : SE Z true Γ u rB (D.pure b)) : SE Z j Γ (tAndV t u) rB (D.pure (a && b)) := by
  cases a with
  | true => exact se_and h h'
  | false => exact se_and h h'
theorem se_orp {t u : TE} {a b : Bool} (h : SE Z true Γ t rB (D.pure a)) (h' : SE Z true Γ u rB (D.pure b)) : SE Z j Γ (tOrV t u) rB (D.pure (a || b)) := by
  cases a with
  | true => exact se_or h h'
  | false => exact se_or h h'
theorem se_if {c : TT} {t u : TE} {R : Rp α} {mc : D Bool} {m m2 : D α} (hc : ST Z Γ c mc) (h : SE Z j Γ t R m) (h' : SE Z j Γ u R m2) : SE Z j Γ (tIf c t u) R (fun P X => mc (fun b => if b = true then m P X else m2 P X) X) := fun φ σ w H Q P X hn hA hm k x => hc φ σ w H _ _ X hn hA hm (fun a I' H' pa s => by
  cases a with
  | true => exact h φ σ (w.to I') H' _ P X hn (hA.step s) pa (fun b u I2 H2 pb s2 rb => k b u I2 H2 pb (s.trans s2) rb) (xg s x)
  | false => exact h' φ σ (w.to I') H' _ P X hn (hA.step s) pa (fun b u I2 H2 pb s2 rb => k b u I2 H2 pb (s.trans s2) rb) (xg s x)) x
theorem se_ifp {c : TT} {t u : TE} {R : Rp α} {b : Bool} {x y : α} (hc : ST Z Γ c (D.pure b)) (h : SE Z j Γ t R (D.pure x)) (h' : SE Z j Γ u R (D.pure y)) : SE Z j Γ (tIf c t u) R (D.pure (if b = true then x else y)) := by
  cases b with
  | true => exact se_if hc h h'
  | false => exact se_if hc h h'
/-! ### arguments, lists, tuples, calls -/
theorem sa_nil : SA Z j Γ tNil rs0 (D.pure ()) := fun φ σ w H Q P X hn hA hm k _ => k () [] w.I H hm hA.rf rfl
theorem sa_cons {t : TE} {u : TA} {R : Rp α} {S : Rps β} {m : D α} {m2 : D β} (h : SE Z j Γ t R m) (h' : SA Z j Γ u S m2) : SA Z j Γ (tCons t u) (rsC R S) (D.bind m fun a => D.bind m2 fun b => D.pure (a, b)) := fun φ σ w H Q P X hn hA hm k x =>
  h φ σ w H _ _ X hn hA hm (fun a v I1 H1 pa s1 ra => h' φ σ (w.to I1) H1 _ _ X hn (hA.step s1) pa (fun b vs I2 H2 pb s2 rb => k _ _ I2 H2 pb (s1.trans s2) ⟨v, vs, rfl, R.mono (tp_go (w := w.to I1) s2) s2.i ra, rb⟩) (xg s1 x)) x
/-- a row of things of one kind, as long as it is written -/
def rsL (R : Rp α) : Rps (List α) := ⟨fun _ I vs xs => Paired (R.rep I) vs xs, fun _ t h => prd_mono R t h⟩
theorem sl_nil {R : Rp α} : SA Z j Γ tNil (rsL R) (D.pure []) := fun φ σ w H Q P X hn hA hm k _ => k [] [] w.I H hm hA.rf .nil
theorem sl_cons {t : TE} {u : TA} {R : Rp α} {m : D α} {m2 : D (List α)} (h : SE Z false Γ t R m) (h' : SA Z false Γ u (rsL R) m2) : SA Z false Γ (tCons t u) (rsL R) (D.bind m fun a => D.bind m2 fun b => D.pure (a :: b)) := fun φ σ w H Q P X hn hA hm k x =>
  h φ σ w H _ _ X hn hA hm (fun a v I1 H1 pa s1 ra => h' φ σ (w.to I1) H1 _ _ X hn (hA.step s1) pa (fun b vs I2 H2 pb s2 rb => k _ _ I2 H2 pb (s1.trans s2) (.cons (R.mn s2.i ra) rb)) (xg s1 x)) x
theorem go_new1 {w : Wd} {H : Hp} {p : Addr} (s : Same w.I H) (hp : H p = none) (o : HO) : Go w H (upd w.I p o) (upd H p o) := .of_gw (Gw.new1 s hp o)
theorem se_lst {t : TA} {R : Rp α} {m : D (List α)} (h : SA Z false Γ t (rsL R) m) : SE Z j Γ (tLst t) (rL R) (D.bind m fun xs => D.need (xs.length ≤ sizeLine) (D.pure xs)) := fun φ σ w H Q P X hn hA hm k x =>
  h φ σ w H _ _ X hn hA hm (fun xs vs I1 H1 pa s1 ra => ⟨by rw [prd_len ra]; exact pa.1, fun p hp => by
    have g := s1.trans (go_new1 (w := w.to I1) s1.sub hp (.lst vs))
    exact k xs _ _ _ pa.2 g ((rL R).up (i_tp (w := w.to _) j (hA.step g).go) ⟨p, vs, rfl, upd_same, pa.1, prd_mono R (My.same_upd (s1.sub.free hp)) ra⟩)⟩) x
/-- a written list, its length plain -/
theorem se_lstp {t : TA} {R : Rp α} {xs : List α} (h : SA Z false Γ t (rsL R) (D.pure xs)) (l : xs.length ≤ sizeLine := by decide) : SE Z j Γ (tLst t) (rL R) (D.pure xs) := fun φ σ w H Q P X hn hA hm k x => se_lst h φ σ w H Q P X hn hA ⟨l, hm⟩ k x
theorem rep_le {S : Rps β} {J I : Hp} {vs : List V} {b : β} (n : Nat) (l : ∀ J I vs b, S.top J I vs b → vs.length = n) (h : S.top J I vs b) (k : n ≤ sizeLine) : vs.length ≤ sizeLine := by rw [l _ _ _ _ h]; exact k
theorem se_tu {t : TA} {S : Rps β} {m : D β} (q : Nat) (h : SA Z false Γ t S m) (l : ∀ J I vs b, S.top J I vs b → vs.length = q) (k : q ≤ sizeLine := by decide) : SE Z j Γ (tTup t) (rTu Z.K S) (D.bind m fun b => D.pure (Tu.mk b)) := fun φ σ w H Q P X hn hA hm kk x =>
  h φ σ w H _ _ X hn hA hm (fun b vs I1 H1 pa s1 ra => ⟨rep_le q l ra k, fun p hp => by
    have g := s1.trans (go_new1 (w := w.to I1) s1.sub hp (.tup vs))
    have s2 := My.same_upd (o := .tup vs) (s1.sub.free hp)
    exact kk _ _ _ _ pa g ((rTu Z.K S).up (i_tp (w := w.to _) j (hA.step g).go) ⟨p, vs, rfl, SqT.of upd_same, S.mono s2 s2 ra⟩)⟩) x
theorem len0 : ∀ (J I : Hp) (vs : List V) (b : Unit), rs0.top J I vs b → vs.length = 0 := fun _ _ _ _ h => by rw [show _ = [] from h]; rfl
theorem lenC {R : Rp α} {S : Rps β} {n : Nat} (l : ∀ J I vs b, S.top J I vs b → vs.length = n) : ∀ (J I : Hp) (vs : List V) (b : α × β), (rsC R S).top J I vs b → vs.length = n + 1 := fun _ _ _ _ ⟨v, r, e, _, h⟩ => by rw [e, List.length_cons, l _ _ _ _ h]
/-- the promise of a def that changes nothing -/
def spF (K : PySem.W.Frag) (mg : Str → Option Value) (S : Rps β) (R : Rp γ) (m : β → D γ) : Sp := fun vs H Q E => ∃ (I : Hp) (b : β) (P : γ → Prop) (X : Ex → Prop), Same I H ∧ S.rep I vs b ∧ m b P X ∧ (∀ c v I' H', P c → Gw I H I' H' → R.rep I' v c → Q v H') ∧ (∀ e c d I' H', X e → Gw I H I' H' → e.rep K mg I' c d → E c d H')
/-- the same of one that raises nothing -/
def spF0 (S : Rps β) (R : Rp γ) (m : β → D γ) : Sp := fun vs H Q _ => ∃ (I : Hp) (b : β) (P : γ → Prop), Same I H ∧ S.rep I vs b ∧ m b P (fun _ => False) ∧ (∀ c v I' H', P c → Gw I H I' H' → R.rep I' v c → Q v H')
theorem spF0.imp {S : Rps β} {R : Rp γ} {m m' : β → D γ} (h : ∀ b P, m' b P (fun _ => False) → m b P (fun _ => False)) : ∀ vs H Q E, spF0 S R m' vs H Q E → spF0 S R m vs H Q E := fun _ _ _ _ ⟨I, b, P, s, r, k, q⟩ => ⟨I, b, P, s, r, h b P k, q⟩
theorem se_call0 {E : XK} {t : TA} {S : Rps β} {R : Rp γ} {mb : D β} {m : β → D γ} (h : SA Z false Γ t S mb) : SE Z j Γ (tCall (spF0 S R m) [] E t) R (D.bind mb fun b => D.nox (m b)) := fun φ σ w H Q P X hn hA hm k x =>
  h φ σ w H _ _ X hn hA hm (fun b vs I1 H1 pa s1 ra => by
    rw [List.append_nil]
    exact ⟨I1, b, P, s1.sub, ra, pa, fun c v I' H' pc g rc => k c v I' H' pc (s1.trans (.of_gw g)) (R.up (i_tp (w := w.to I') j (hA.step (s1.trans (.of_gw g))).go) rc)⟩) x
/-- a call that is handed what may change later: what it gives is flat -/
theorem se_callJ {E : XK} {t : TA} {S : Rps β} {R : Rp γ} {mb : D β} {m : β → D γ} (f : R.flat) (h : SA Z true Γ t S mb) : SE Z j Γ (tCall (spF0 S R m) [] E t) R (D.bind mb fun b => D.nox (m b)) := fun φ σ w H Q P X hn hA hm k x =>
  h φ σ w H _ _ X hn hA hm (fun b vs I1 H1 pa s1 ra => by
    rw [List.append_nil]
    have A1 := hA.step s1
    refine ⟨Jn w H1, b, P, tp_sub (j := true) s1.sub, S.mono (Same.refl _) (i_jn (w := w.to I1) A1.go) ra, pa, fun c v I' H' pc g rc => k c v I1 H' pc (s1.trans ⟨Same.refl _, s1.sub.trans g.h, fun _ _ => rfl, fun b o _ e => g.h b o e, fun b i ns _ e => ⟨ns, g.h _ _ e, rfl⟩, fun b e => Same.nn g.h e⟩) (f _ _ _ _ _ _ rc)⟩) x
end
end Lx
namespace Lx
open PySem PySem.Spec PyProof.Rows L2 TL
section
variable {Z : Px} {j : Bool} {Γ : List Cell} {α β γ δ : Type}
/-! ### slots -/
def HoldC (σ : L2.St) (w : Wd) (H : Hp) (cs : List Cell) : Prop := ∀ c ∈ cs, c.holds σ w H
theorem look_app {i : Nat} {c : Cell} {Γ : List Cell} : ∀ {cs : List Cell}, look (cs ++ Γ) i = some c → c ∈ cs ∨ (i ∉ cs.map (·.i) ∧ look Γ i = some c)
  | [], h => .inr ⟨by simp, h⟩
  | d :: r, h => by
    have h' : (match Nat.beq d.i i with | true => some d | false => look (r ++ Γ) i) = some c := h
    cases e : Nat.beq d.i i with
    | true =>
      rw [e] at h'
      cases h'
      exact .inl (List.mem_cons_self ..)
    | false =>
      rw [e] at h'
      rcases look_app (cs := r) h' with q | ⟨q1, q2⟩
      · exact .inl (List.mem_cons_of_mem _ q)
      · refine .inr ⟨?_, q2⟩
        have n : d.i ≠ i := Nat.ne_of_beq_eq_false e
        rw [List.map_cons, List.mem_cons]
        exact fun z => z.elim (fun z => n z.symm) q1
theorem holds_slot {σ σ' : L2.St} {w : Wd} {H : Hp} {c : Cell} (e : σ'[c.i]? = σ[c.i]?) (h : c.holds σ w H) : c.holds σ' w H := by
  obtain ⟨K, i, x⟩ := c
  cases K with
  | p R =>
    obtain ⟨v, q, k⟩ := h
    exact ⟨v, e.trans q, k⟩
  | l R =>
    obtain ⟨v, q, k⟩ := h
    exact ⟨v, e.trans q, k⟩
  | w k =>
    obtain ⟨v, q, k⟩ := h
    exact ⟨v, e.trans q, k⟩
  | x => exact h
theorem hold_tgt {σ σ' : L2.St} {w : Wd} {H : Hp} {cs : List Cell} {is : List Nat} (e : ∀ j, j ∉ is → σ'[j]? = σ[j]?) (ei : cs.map (·.i) = is) (hc : HoldC σ' w H cs) (h : Hold σ w H Γ) : Hold σ' w H (cs ++ Γ) := fun i c q => by
  rcases look_app q with q | ⟨q1, q2⟩
  · exact hc c q
  · rw [ei] at q1
    have := look_i q2
    exact holds_slot (by rw [this]; exact e i q1) (h i c q2)
/-- what nothing is known of -/
def xs (is : List Nat) : List Cell := is.map fun i => ⟨.x, i, ()⟩
theorem xs_i (is : List Nat) : (xs is).map (·.i) = is := by
  unfold xs
  rw [List.map_map]
  exact List.map_id' is
theorem xs_hold {σ : L2.St} {w : Wd} {H : Hp} (is : List Nat) : HoldC σ w H (xs is) := fun c h => by
  obtain ⟨i, _, rfl⟩ := List.mem_map.mp h
  exact trivial
/-- from one row of cells to another -/
def Subs (Γb : List Cell) : List Nat → List Cell → Prop
  | _, [] => True
  | seen, c :: r => (match seen.contains c.i with | true => True | false => (c = ⟨.x, c.i, ()⟩ ∨ look Γb c.i = some c)) ∧ Subs Γb (c.i :: seen) r
theorem subs_look {Γb : List Cell} {i : Nat} {c : Cell} : ∀ {Γt : List Cell} {seen : List Nat}, Subs Γb seen Γt → i ∉ seen → look Γt i = some c → c = ⟨.x, c.i, ()⟩ ∨ look Γb i = some c
  | d :: r, seen, ⟨h, t⟩, n, e => by
    have e' : (match Nat.beq d.i i with | true => some d | false => look r i) = some c := e
    cases q : Nat.beq d.i i with
    | true =>
      rw [q] at e'
      cases e'
      have z : c.i = i := Nat.eq_of_beq_eq_true q
      have ns : seen.contains c.i = false := by rw [z]; simpa using n
      rw [ns] at h
      rw [← z]
      exact h
    | false =>
      rw [q] at e'
      have z : d.i ≠ i := Nat.ne_of_beq_eq_false q
      exact subs_look t (by rw [List.mem_cons]; exact fun y => y.elim (fun y => z y.symm) n) e'
theorem Subs.hold {Γb Γt : List Cell} (s : Subs Γb [] Γt) {σ : L2.St} {w : Wd} {H : Hp} (h : Hold σ w H Γb) : Hold σ w H Γt := fun i c e => by
  rcases subs_look s (by simp) e with q | q
  · rw [q]
    exact trivial
  · exact h i c q
/-! ### targets -/
def SG (K : PySem.W.Frag) (g : TG) (R : Rp α) (is : List Nat) (cs : α → List Cell) : Prop := (∀ a, (cs a).map (·.i) = is) ∧ ∀ (x : V) (a : α) (σ : L2.St) (w : Wd) (H : Hp) (n : Nat) (Q : L2.St → Hp → Prop), σ.length = n → (∀ i ∈ is, i < n) → Same w.I H → R.rep w.I x a →
  (∀ σ' : L2.St, σ'.length = n → (∀ j, j ∉ is → σ'[j]? = σ[j]?) → HoldC σ' w H (cs a) → Q σ' H) → g x σ H Q
def SGs (K : PySem.W.Frag) (g : TGs) (S : Rps β) (is : List Nat) (cs : β → List Cell) : Prop := (∀ a, (cs a).map (·.i) = is) ∧ ∀ (x : List V) (a : β) (σ : L2.St) (w : Wd) (H : Hp) (n : Nat) (Q : L2.St → Hp → Prop), σ.length = n → (∀ i ∈ is, i < n) → Same w.I H → S.rep w.I x a →
  (∀ σ' : L2.St, σ'.length = n → (∀ j, j ∉ is → σ'[j]? = σ[j]?) → HoldC σ' w H (cs a) → Q σ' H) → g x σ H Q
theorem set_at {σ : L2.St} {i : Nat} {v : V} (h : i < σ.length) : (σ.set i (some v))[i]? = some (some v) := by rw [List.getElem?_set_self h]
theorem set_off {σ : L2.St} {i j : Nat} {x : Option V} (h : j ≠ i) : (σ.set i x)[j]? = σ[j]? := List.getElem?_set_ne (fun e => h e.symm)
theorem holdC1 {σ : L2.St} {w : Wd} {H : Hp} {c : Cell} (h : c.holds σ w H) : HoldC σ w H [c] := fun d hd => by
  rw [List.mem_singleton] at hd
  rw [hd]
  exact h
theorem holdCc {σ : L2.St} {w : Wd} {H : Hp} {c : Cell} {cs : List Cell} (h : c.holds σ w H) (t : HoldC σ w H cs) : HoldC σ w H (c :: cs) := fun d hd => by
  rcases List.mem_cons.mp hd with q | q
  · rw [q]
    exact h
  · exact t d q
theorem sg_name {K : PySem.W.Frag} {i : Nat} {R : Rp α} : SG K (gName i) R [i] (fun a => [⟨.p R, i, a⟩]) := ⟨fun _ => rfl, fun x a σ w H n Q hl hi s r k =>
  k _ (by rw [List.length_set]; exact hl) (fun j hj => set_off (by simpa using hj)) (holdC1 ⟨x, set_at (by rw [hl]; exact hi i (by simp)), r⟩)⟩
theorem sgs_nil {K : PySem.W.Frag} : SGs K gNil rs0 [] (fun _ => []) := ⟨fun _ => rfl, fun x a σ w H n Q hl hi s r k => ⟨r, k σ hl (fun _ _ => rfl) (fun c hc => nomatch hc)⟩⟩
theorem sgs_cons {K : PySem.W.Frag} {i : Nat} {R : Rp α} {S : Rps β} {u : TGs} {is : List Nat} {cs : β → List Cell} (h : SGs K u S is cs) (ni : is.contains i = false := by rfl) : SGs K (gCons (gName i) u) (rsC R S) (i :: is) (fun b => ⟨.p R, i, b.1⟩ :: cs b.2) := ⟨fun b => by rw [List.map_cons, h.1], fun x a σ w H n Q hl hi s r k => by
  obtain ⟨v, q, e, r1, r2⟩ := r
  have hiL : i < n := hi i (by simp)
  refine ⟨v, q, e, h.2 q a.2 _ w H n Q (by rw [List.length_set]; exact hl) (fun j hj => hi j (by simp [hj])) s r2 fun σ' hl' he hh => k σ' hl' (fun j hj => ?_) (holdCc ⟨v, ?_, r1⟩ hh)⟩
  · rw [he j (fun z => hj (by simp [z])), set_off (fun z => hj (by simp [z]))]
  · rw [he i (by simpa using ni), set_at (by rw [hl]; exact hiL)]⟩
/-- a target within a target -/
theorem sgs_consT {K : PySem.W.Frag} {g : TG} {R : Rp α} {S : Rps β} {u : TGs} {js is : List Nat} {ds : α → List Cell} {cs : β → List Cell} (h0 : SG K g R js ds) (h : SGs K u S is cs) (ni : js.all (fun i => !is.contains i) = true := by rfl) : SGs K (gCons g u) (rsC R S) (js ++ is) (fun b => ds b.1 ++ cs b.2) := ⟨fun b => by rw [List.map_append, h.1, h0.1], fun x a σ w H n Q hl hi s r k => by
  obtain ⟨v, q, e, r1, r2⟩ := r
  refine ⟨v, q, e, h0.2 v a.1 σ w H n _ hl (fun j hj => hi j (by simp [hj])) s r1 fun σ1 hl1 he1 hh1 => h.2 q a.2 _ w H n Q hl1 (fun j hj => hi j (by simp [hj])) s r2 fun σ' hl' he hh => k σ' hl' (fun j hj => ?_) (fun c hc => ?_)⟩
  · rw [he j (fun z => hj (by simp [z])), he1 j (fun z => hj (by simp [z]))]
  · rcases List.mem_append.mp hc with z | z
    · have zi : c.i ∈ js := by rw [← h0.1 a.1]; exact List.mem_map_of_mem z
      have := List.all_eq_true.mp ni c.i zi
      exact holds_slot (he c.i (by simpa using this)) (hh1 c z)
    · exact hh c z⟩
theorem sg_tup {K : PySem.W.Frag} {S : Rps β} {u : TGs} {is : List Nat} {cs : β → List Cell} {q : Nat} (h : SGs K u S is cs) (l : ∀ J I vs b, S.top J I vs b → vs.length = q) : SG K (gTup K q u) (rTu K S) is (fun t => cs t.r) := ⟨fun t => h.1 t.r, fun x a σ w H m Q hl hi s r k => by
  obtain ⟨p, vs, e, q, r⟩ := r
  exact ⟨p, vs, e, Same.seqT s q, l _ _ _ _ r, h.2 vs a.r σ w H m Q hl hi s r k⟩⟩
/-! ### statements -/
abbrev M (γ S L : Type) := (γ → Prop) → (S → Prop) → (L → Prop) → (L → Prop) → (Ex → Prop) → Prop
variable {S L S' : Type}
def SB (Z : Px) (Γ : List Cell) (t : TS) (R : Rp γ) (Γn : S → List Cell) (Γl : L → List Cell) (m : M γ S L) : Prop :=
  ∀ (φ : Fr) (σ : L2.St) (w : Wd) (H : Hp) (Dn : Ends) (rt : γ → Prop) (nx : S → Prop) (bk ct : L → Prop) (X : Ex → Prop), φ.n = Z.n → At φ Γ σ w H → m rt nx bk ct X →
    (∀ c v w' H', rt c → Gf φ.w0 φ.H0 w' H' → R.rep w'.I v c → Dn.rt v H') →
    (∀ s σ' w' H', nx s → At φ (Γn s) σ' w' H' → Same w.I w'.I → Dn.nx σ' H') →
    (∀ s σ' w' H', bk s → At φ (Γl s) σ' w' H' → Same w.I w'.I → Dn.bk σ' H') →
    (∀ s σ' w' H', ct s → At φ (Γl s) σ' w' H' → Same w.I w'.I → Dn.ct σ' H') →
    (∀ e c d w' H', X e → Gf φ.w0 φ.H0 w' H' → e.rep Z.K Z.mg w'.I c d → Z.E c d H') → t Dn σ H
variable {R : Rp γ} {Γn : S → List Cell} {Γl : L → List Cell}
theorem kk2 {φ : Fr} {Γf : S → List Cell} {f : S → Prop} {K : L2.St → Hp → Prop} {I1 I2 : Hp} (s : Same I1 I2) (k : ∀ s σ' w' H', f s → At φ (Γf s) σ' w' H' → Same I1 w'.I → K σ' H') : ∀ s σ' w' H', f s → At φ (Γf s) σ' w' H' → Same I2 w'.I → K σ' H' := fun s' σ2 w2 H2 ps hA2 s2 => k s' σ2 w2 H2 ps hA2 (s.trans s2)
theorem kx {φ : Fr} {w : Wd} {H : Hp} {X : Ex → Prop} (hg : Gf φ.w0 φ.H0 w H) (k5 : ∀ e c d w' H', X e → Gf φ.w0 φ.H0 w' H' → e.rep Z.K Z.mg w'.I c d → Z.E c d H') : ∀ e c d I' H', X e → Go w H I' H' → e.rep Z.K Z.mg I' c d → Z.E c d H' := fun e c d I' H' xe g r => k5 e c d (w.to I') H' xe (hg.go g) r
theorem sb_asg {te : TE} {g : TG} {u : TS} {A : Rp α} {is : List Nat} {cs : α → List Cell} {me : D α} {m : α → M γ S L} (hg : SG Z.K g A is cs) (hi : is.all (fun i => decide (i < Z.n)) = true) (he : SE Z false Γ te A me) (hu : ∀ a, SB Z (cs a ++ Γ) u R Γn Γl (m a)) :
    SB Z Γ (tSeq (tAsg te g) u) R Γn Γl (fun rt nx bk ct X => me (fun a => m a rt nx bk ct X) X) := fun φ σ w H Dn rt nx bk ct X hn hA hm k1 k2 k3 k4 k5 =>
  he φ σ w H _ _ X hn hA hm (fun a v I' H' pa s r => hg.2 v a σ (w.to I') H' Z.n _ (hA.len.trans hn) (fun i z => of_decide_eq_true (List.all_eq_true.mp hi i z)) s.sub r fun σ' hl he' hh =>
    hu a φ σ' (w.to I') H' Dn rt nx bk ct X hn ⟨(hA.step s).go, hl.trans hn.symm, hold_tgt he' (hg.1 a) hh (hA.step s).hold⟩ pa k1 (kk2 s.i k2) (kk2 s.i k3) (kk2 s.i k4) k5)
    (kx hA.go k5)
theorem sb_set {i : Nat} {te : TE} {u : TS} {A : Rp α} {me : D α} {m : α → M γ S L} (hi : i < Z.n) (he : SE Z false Γ te A me) (hu : ∀ a, SB Z (⟨.p A, i, a⟩ :: Γ) u R Γn Γl (m a)) :
    SB Z Γ (tSeq (tAsg te (gName i)) u) R Γn Γl (fun rt nx bk ct X => me (fun a => m a rt nx bk ct X) X) := sb_asg sg_name (by simp [hi]) he hu
theorem sb_drop {te : TE} {u : TS} {A : Rp α} {me : D α} {m : M γ S L} (he : SE Z true Γ te A me) (hu : SB Z Γ u R Γn Γl m) :
    SB Z Γ (tSeq (tDrop te) u) R Γn Γl (fun rt nx bk ct X => me (fun _ => m rt nx bk ct X) X) := fun φ σ w H Dn rt nx bk ct X hn hA hm k1 k2 k3 k4 k5 =>
  he φ σ w H _ _ X hn hA hm (fun a v I' H' pa s r => hu φ σ (w.to I') H' Dn rt nx bk ct X hn (hA.step s) pa k1 (kk2 s.i k2) (kk2 s.i k3) (kk2 s.i k4) k5)
    (kx hA.go k5)
theorem sb_if {c : TT} {t u : TS} {mc : D Bool} {m1 m2 : M γ S L} (hc : ST Z Γ c mc) (ht : SB Z Γ t R Γn Γl m1) (hu : SB Z Γ u R Γn Γl m2) :
    SB Z Γ (tIfS c t u) R Γn Γl (fun rt nx bk ct X => mc (fun b => if b = true then m1 rt nx bk ct X else m2 rt nx bk ct X) X) := fun φ σ w H Dn rt nx bk ct X hn hA hm k1 k2 k3 k4 k5 =>
  hc φ σ w H _ _ X hn hA hm (fun b I' H' pa s => by
    cases b with
    | true => exact ht φ σ (w.to I') H' Dn rt nx bk ct X hn (hA.step s) pa k1 (kk2 s.i k2) (kk2 s.i k3) (kk2 s.i k4) k5
    | false => exact hu φ σ (w.to I') H' Dn rt nx bk ct X hn (hA.step s) pa k1 (kk2 s.i k2) (kk2 s.i k3) (kk2 s.i k4) k5)
    (kx hA.go k5)
theorem sb_seq {t u : TS} {Γ1 : S' → List Cell} {m1 : M γ S' L} {m2 : S' → M γ S L} (ht : SB Z Γ t R Γ1 Γl m1) (hu : ∀ s, SB Z (Γ1 s) u R Γn Γl (m2 s)) :
    SB Z Γ (tSeq t u) R Γn Γl (fun rt nx bk ct X => m1 rt (fun s => m2 s rt nx bk ct X) bk ct X) := fun φ σ w H Dn rt nx bk ct X hn hA hm k1 k2 k3 k4 k5 =>
  ht φ σ w H _ rt _ bk ct X hn hA hm k1 (fun s σ' w' H' ps hA' s1 => hu s φ σ' w' H' Dn rt nx bk ct X hn hA' ps k1 (kk2 s1 k2) (kk2 s1 k3) (kk2 s1 k4) k5) k3 k4 k5
/-- a last statement that is followed by nothing -/
theorem sb_end {t : TS} {m : M γ S L} (h : SB Z Γ (tSeq t tNext) R Γn Γl m) : SB Z Γ t R Γn Γl m := h
theorem sb_next {s : S} (h : Subs Γ [] (Γn s)) : SB Z Γ tNext R Γn Γl (fun _ nx _ _ _ => nx s) := fun φ σ w H Dn rt nx bk ct X hn hA hm k1 k2 k3 k4 k5 => k2 s σ w H hm ⟨hA.go, hA.len, h.hold hA.hold⟩ (Same.refl _)
theorem sb_brk {s : L} (h : Subs Γ [] (Γl s)) : SB Z Γ tBreak R Γn Γl (fun _ _ bk _ _ => bk s) := fun φ σ w H Dn rt nx bk ct X hn hA hm k1 k2 k3 k4 k5 => k3 s σ w H hm ⟨hA.go, hA.len, h.hold hA.hold⟩ (Same.refl _)
theorem sb_ct {s : L} (h : Subs Γ [] (Γl s)) : SB Z Γ tCont R Γn Γl (fun _ _ _ ct _ => ct s) := fun φ σ w H Dn rt nx bk ct X hn hA hm k1 k2 k3 k4 k5 => k4 s σ w H hm ⟨hA.go, hA.len, h.hold hA.hold⟩ (Same.refl _)
theorem sb_ret {te : TE} {m : D γ} (h : SE Z false Γ te R m) : SB Z Γ (tRet te) R Γn Γl (fun rt _ _ _ X => m rt X) := fun φ σ w H Dn rt nx bk ct X hn hA hm k1 k2 k3 k4 k5 => h φ σ w H _ _ X hn hA hm (fun a v I' H' pa s r => k1 a v (w.to I') H' pa (hA.step s).go r) (kx hA.go k5)
theorem sb_retN : SB Z Γ tRetN rN Γn Γl (fun rt _ _ _ _ => rt ()) := fun φ σ w H Dn rt nx bk ct X hn hA hm k1 k2 k3 k4 k5 => k1 () .non w H hm hA.go rfl
/-- if c: (what does not come behind); the rest -/
theorem sb_ifq {c : TT} {t u : TS} {mc : D Bool} {m1 : M γ Unit L} {m2 : M γ S L} (hc : ST Z Γ c mc) (ht : SB Z Γ t R (fun _ : Unit => Γ) Γl m1) (hu : SB Z Γ u R Γn Γl m2) :
    SB Z Γ (tSeq (tIfS c t tNext) u) R Γn Γl (fun rt nx bk ct X => mc (fun b => if b = true then m1 rt (fun _ => False) bk ct X else m2 rt nx bk ct X) X) := fun φ σ w H Dn rt nx bk ct X hn hA hm k1 k2 k3 k4 k5 =>
  hc φ σ w H _ _ X hn hA hm (fun b I' H' pa s => by
    cases b with
    | true => exact ht φ σ (w.to I') H' { Dn with nx := u Dn } rt (fun _ => False) bk ct X hn (hA.step s) pa k1 (fun _ _ _ _ z => z.elim) (kk2 s.i k3) (kk2 s.i k4) k5
    | false => exact hu φ σ (w.to I') H' Dn rt nx bk ct X hn (hA.step s) pa k1 (kk2 s.i k2) (kk2 s.i k3) (kk2 s.i k4) k5)
    (kx hA.go k5)
/-! ### what is walked -/
structure Wk (R : Rp α) (T : It) (J0 I0 : Hp) (xs : List α) : Prop where
  stop : ∀ H, Same J0 H → T.stop xs.length H
  go : ∀ i H, i < xs.length → Same J0 H → T.go i H
  yld : ∀ i I H x H', i < xs.length → Same J0 H → Same I0 I → Same I H → T.yld i H x H' → ∃ a I', xs[i]? = some a ∧ Gw I H I' H' ∧ R.rep I' x a
def SI (Z : Px) (j : Bool) (Γ : List Cell) (wi : TI) (R : Rp α) (m : D (List α)) : Prop :=
  ∀ (φ : Fr) (σ : L2.St) (w : Wd) (H : Hp) (Rr : It → Hp → Prop) (P : List α → Prop) (X : Ex → Prop), φ.n = Z.n → At φ Γ σ w H → m P X →
    (∀ xs T I' H', P xs → Go w H I' H' → xs.length ≤ sizeLine → Wk R T (tp j w I' H') I' xs → Rr T H') →
    (∀ e c d I' H', X e → Go w H I' H' → e.rep Z.K Z.mg I' c d → Z.E c d H') → wi σ H Rr
theorem prd_get {α : Type} {R : V → α → Prop} : ∀ {vs : List V} {xs : List α} {i : Nat}, Paired R vs xs → i < xs.length → ∃ v a, vs[i]? = some v ∧ xs[i]? = some a ∧ R v a
  | _, _, _, .nil, h => absurd h (by simp)
  | _, _, 0, .cons r _, _ => ⟨_, _, rfl, rfl, r⟩
  | _, _, i + 1, .cons _ t, h => by
    obtain ⟨v, a, e1, e2, r⟩ := prd_get (i := i) t (by simpa using h)
    exact ⟨v, a, e1, e2, r⟩
theorem wk_list {K : PySem.W.Frag} {R : Rp α} {a : Addr} {vs : List V} {xs : List α} {J0 I0 : Hp} (rd : ∀ {H : Hp}, Same J0 H → SqL K H a vs) (pr : Paired (R.rep I0) vs xs) : Wk R (Itl K a) J0 I0 xs :=
  ⟨fun H1 s1 => ⟨vs, rd s1, by rw [prd_len pr]; exact Nat.le_refl _⟩, fun i H1 hi s1 => by
    obtain ⟨v, b, e1, _, _⟩ := prd_get pr hi
    exact ⟨vs, v, rd s1, e1⟩, fun i I H1 y H2 hi s1 s0 s2 ⟨e, hy⟩ => by
    obtain ⟨v, b, e1, e2, r⟩ := prd_get pr hi
    have := hy vs (rd s1)
    rw [e1] at this
    cases this
    exact ⟨b, I, e2, by rw [e]; exact Gw.refl s2, R.mn s0 r⟩⟩
theorem wk_tup {K : PySem.W.Frag} {R : Rp α} {a : Addr} {vs : List V} {xs : List α} {J0 I0 : Hp} (rd : ∀ {H : Hp}, Same J0 H → SqT K H a vs) (pr : Paired (R.rep I0) vs xs) : Wk R (Itt K a) J0 I0 xs :=
  ⟨fun H1 s1 => ⟨vs, rd s1, by rw [prd_len pr]; exact Nat.le_refl _⟩, fun i H1 hi s1 => by
    obtain ⟨v, b, e1, _, _⟩ := prd_get pr hi
    exact ⟨vs, v, rd s1, e1⟩, fun i I H1 y H2 hi s1 s0 s2 ⟨e, hy⟩ => by
    obtain ⟨v, b, e1, e2, r⟩ := prd_get pr hi
    have := hy vs (rd s1)
    rw [e1] at this
    cases this
    exact ⟨b, I, e2, by rw [e]; exact Gw.refl s2, R.mn s0 r⟩⟩
theorem si_list {tl : TE} {R : Rp α} {m : D (List α)} (h : SE Z j Γ tl (rL R) m) : SI Z j Γ (iList Z.K tl) R m := fun φ σ w H Rr P X hn hA hm k x =>
  h φ σ w H _ P X hn hA hm (fun xs v I' H' pa s ⟨a, vs, e, hv, hl, pr⟩ => ⟨a, e, ⟨vs, SqL.of (tp_sub s.sub _ _ hv)⟩, k xs _ I' H' pa s hl (wk_list (fun s1 => SqL.of (s1 _ _ hv)) pr)⟩) x
theorem si_scr {tl : TE} {R : Rp α} {m : D (Scr α)} (h : SE Z j Γ tl (rScr Z.K R) m) : SI Z j Γ (iList Z.K tl) R (D.bind m fun s => D.pure s.l) := fun φ σ w H Rr P X hn hA hm k x =>
  h φ σ w H _ _ X hn hA hm (fun xs v I' H' pa s ⟨a, vs, e, hv, hl, pr⟩ => ⟨a, e, ⟨vs, (tp_sub s.sub).seq hv⟩, k xs.l _ I' H' pa s hl (wk_list (fun s1 => s1.seq hv) pr)⟩) x
theorem si_tup {tl : TE} {R : Rp α} {m : D (Tv α)} (h : SE Z j Γ tl (rT Z.K R) m) : SI Z j Γ (iTup Z.K tl) R (D.bind m fun s => D.pure s.l) := fun φ σ w H Rr P X hn hA hm k x =>
  h φ σ w H _ _ X hn hA hm (fun xs v I' H' pa s ⟨a, vs, e, hv, hl, pr⟩ => ⟨a, e, ⟨vs, Same.seqT (tp_sub s.sub) hv⟩, k xs.l _ I' H' pa s hl (wk_tup (fun s1 => Same.seqT s1 hv) pr)⟩) x
/-- lo, lo + 1, .. -/
def rngL (lo : Int) (n : Nat) : List Int := (List.range n).map fun k : Nat => lo + (k : Int)
theorem rngL_len (lo : Int) (n : Nat) : (rngL lo n).length = n := by unfold rngL; rw [List.length_map, List.length_range]
theorem wk_rng (lo : Int) (n : Nat) (J0 I0 : Hp) : Wk rI (Itr lo n) J0 I0 (rngL lo n) :=
  ⟨fun H _ => by show n ≤ _; rw [rngL_len]; exact Nat.le_refl _, fun i H hi _ => by rw [rngL_len] at hi; exact hi, fun i I H x H' hi _ s0 s1 ⟨e1, e2⟩ => by
    rw [rngL_len] at hi
    exact ⟨lo + (i : Int), I, by simp [rngL, hi], by rw [e1]; exact Gw.refl s1, e2⟩⟩
theorem si_rng1 {t : TA} {m : D (Int × Unit)} (h : SA Z true Γ t (rsC rI rs0) m) : SI Z j Γ (iRng1 t) rI (D.bind m fun b => D.need (b.1 ≤ 16000000) (D.need (-(2 ^ 62) ≤ b.1) (D.pure (rngL 0 b.1.toNat)))) := fun φ σ w H Rr P X hn hA hm k x =>
  h φ σ w H _ _ X hn hA hm (fun b vs I' H' pa s ⟨v, r, e, h1, h2⟩ => by
    cases (show r = [] from h2)
    cases (show v = .int b.1 from h1)
    exact ⟨b.1, e, pa.2.1, by have := pa.1; omega, k _ _ I' H' pa.2.2 s (by rw [rngL_len]; have := pa.1; exact Nat.le_trans (show b.1.toNat ≤ 16000000 by omega) (by decide)) (wk_rng _ _ _ _)⟩) x
theorem si_rng2 {t : TA} {m : D (Int × Int × Unit)} (h : SA Z true Γ t (rsC rI (rsC rI rs0)) m) : SI Z j Γ (iRng2 t) rI (D.bind m fun b => D.need (-16000000 ≤ b.1 ∧ b.2.1 ≤ b.1 + 16000000 ∧ b.1 ≤ 2 ^ 61 ∧ -(2 ^ 62) ≤ b.2.1) (D.pure (rngL b.1 (b.2.1 - b.1).toNat))) := fun φ σ w H Rr P X hn hA hm k x =>
  h φ σ w H _ _ X hn hA hm (fun b vs I' H' pa s ⟨v, r, e, h1, v2, r2, e2, h2, h3⟩ => by
    cases (show r2 = [] from h3)
    cases (show v = .int b.1 from h1)
    cases (show v2 = .int b.2.1 from h2)
    subst e2
    obtain ⟨⟨q1, q2, q3, q4⟩, q5⟩ := pa
    exact ⟨b.1, b.2.1, e, ⟨by omega, by omega, by omega, by omega⟩, k _ _ I' H' q5 s (by rw [rngL_len]; exact Nat.le_trans (show (b.2.1 - b.1).toNat ≤ 16000000 by omega) (by decide)) (wk_rng _ _ _ _)⟩) x
/-! ### for -/
def forD (body : α → S → M γ S S) (rt : γ → Prop) (nx : S → Prop) (X : Ex → Prop) : List α → S → Prop
  | [], s => nx s
  | x :: xs, s => body x s rt (fun s' => forD body rt nx X xs s') nx (fun s' => forD body rt nx X xs s') X
theorem sb_for {wi : TI} {g : TG} {tb : TS} {A : Rp α} {is : List Nat} {cs : α → List Cell} {Γs : S → List Cell} {mi : D (List α)} {body : α → S → M γ S S} {s0 : S} (hi : SI Z false Γ wi A mi) (hg : SG Z.K g A is cs) (hin : is.all (fun i => decide (i < Z.n)) = true)
    (dr : Subs Γ [] (Γs s0)) (hb : ∀ x s, SB Z (cs x ++ Γs s) tb R Γs Γs (body x s)) :
    SB Z Γ (tFor wi g tb) R Γs Γl (fun rt nx _ _ X => mi (fun xs => forD body rt nx X xs s0) X) := fun φ σ w H Dn rt nx bk ct X hn hA hm k1 k2 k3 k4 k5 =>
  hi φ σ w H _ _ X hn hA hm (fun xs T I1 H1 px s1 hl wk => by
    have hA1 := hA.step s1
    refine ⟨fun i m σ' H' => ∃ w' s, i + m = xs.length ∧ At φ (Γs s) σ' w' H' ∧ Same I1 w'.I ∧ forD body rt nx X (xs.drop i) s, ⟨xs.length, w.to I1, s0, by omega, ⟨hA1.go, hA1.len, dr.hold hA1.hold⟩, Same.refl _, px⟩, ?_⟩
    rintro i m σ' H' ⟨w', s, em, hA', s', pf⟩
    by_cases he : i = xs.length
    · left
      subst he
      rw [List.drop_length] at pf
      exact ⟨wk.stop H' (s'.trans hA'.go.sub), k2 s σ' w' H' pf hA' (s1.i.trans s')⟩
    · right
      have hi' : i < xs.length := by omega
      refine ⟨wk.go i H' hi' (s'.trans hA'.go.sub), fun σ2 H2 => ∃ w2 s2, At φ (Γs s2) σ2 w2 H2 ∧ Same I1 w2.I ∧ forD body rt nx X (xs.drop (i + 1)) s2, fun σ2 H2 ⟨w2, s2, hA2, z2, pf2⟩ => ⟨m - 1, by omega, w2, s2, by omega, hA2, z2, pf2⟩, fun x H2 hy => ?_⟩
      obtain ⟨a, I', ea, gw, ra⟩ := wk.yld i w'.I H' x H2 hi' (s'.trans hA'.go.sub) s' hA'.go.sub hy
      have hA2 := hA'.step (.of_gw gw)
      have ed : xs.drop i = a :: xs.drop (i + 1) := by
        rw [List.drop_eq_getElem_cons hi']
        rw [List.getElem?_eq_getElem hi'] at ea
        cases ea
        rfl
      rw [ed] at pf
      refine hg.2 x a σ' (w'.to I') H2 Z.n _ (hA2.len.trans hn) (fun i z => of_decide_eq_true (List.all_eq_true.mp hin i z)) hA2.go.sub ra fun σ2 hl2 he2 hh2 => ?_
      have sB : Same I1 I' := s'.trans gw.i
      exact hb a s φ σ2 (w'.to I') H2 _ rt _ nx _ X hn ⟨hA2.go, hl2.trans hn.symm, hold_tgt he2 (hg.1 a) hh2 hA2.hold⟩ pf k1
        (fun s2 σ3 w3 H3 p3 hA3 z3 => ⟨w3, s2, hA3, sB.trans z3, p3⟩) (fun s2 σ3 w3 H3 p3 hA3 z3 => k2 s2 σ3 w3 H3 p3 hA3 (s1.i.trans (sB.trans z3))) (fun s2 σ3 w3 H3 p3 hA3 z3 => ⟨w3, s2, hA3, sB.trans z3, p3⟩) k5)
    (kx hA.go k5)
/-! ### while: a measure of the state -/
def whileD (test : S → D Bool) (body : S → M γ S S) (rt : γ → Prop) (nx : S → Prop) (X : Ex → Prop) : Nat → S → Prop
  | 0, _ => False
  | n + 1, s => test s (fun b => if b = true then body s rt (fun s' => whileD test body rt nx X n s') nx (fun s' => whileD test body rt nx X n s') X else nx s) X
end
end Lx
namespace Lx
open PySem PySem.Spec PyProof.Rows L2 TL
/-! ### comprehensions -/
theorem wipe_in {σ : L2.St} {i : Nat} : ∀ {vs : List Nat}, i ∈ vs → (wipe σ vs)[i]? = if i < σ.length then some none else none
  | v :: vs, h => by
    unfold wipe
    by_cases e : v = i
    · subst e
      rw [List.getElem?_set]
      simp only [if_true, wipe_length]
    · have h' : i ∈ vs := by
        rcases List.mem_cons.mp h with q | q
        · exact absurd q.symm e
        · exact q
      rw [List.getElem?_set_ne e]
      exact wipe_in h'
theorem wipe_eq {a b : L2.St} {vs : List Nat} (e : ∀ j, j ∉ vs → a[j]? = b[j]?) (l : a.length = b.length) : wipe a vs = wipe b vs := by
  refine List.ext_getElem? fun i => ?_
  by_cases h : i ∈ vs
  · rw [wipe_in h, wipe_in h, l]
  · rw [wipe_out h, wipe_out h, e i h]
theorem wipe_wipe (σ : L2.St) (vs : List Nat) : wipe (wipe σ vs) vs = wipe σ vs := wipe_eq (fun j h => wipe_out h) (wipe_length _ _)
section
variable {Z : Px} {j : Bool} {Γ : List Cell} {α β γ δ : Type}
def compD (mt : α → D Bool) (me : α → D β) : List α → D (List β)
  | [] => D.pure []
  | x :: xs => D.bind (mt x) fun b => if b = true then D.bind (me x) fun y => D.bind (compD mt me xs) fun ys => D.pure (y :: ys) else compD mt me xs
theorem compD_pure (p : α → Bool) (f : α → β) : ∀ xs : List α, compD (fun x => D.pure (p x)) (fun x => D.pure (f x)) xs = D.pure ((xs.filter p).map f)
  | [] => rfl
  | x :: xs => by
    show (D.bind (D.pure (p x)) fun b => if b = true then D.bind (D.pure (f x)) fun y => D.bind (compD _ _ xs) fun ys => D.pure (y :: ys) else compD _ _ xs) = _
    rw [compD_pure p f xs, List.filter_cons]
    by_cases h : p x = true
    · rw [if_pos h]
      show (if p x = true then _ else _) = _
      rw [if_pos h]
      rfl
    · rw [if_neg h]
      show (if p x = true then _ else _) = _
      rw [if_neg h]
theorem compD_map (f : α → β) (xs : List α) : compD (fun _ => D.pure true) (fun x => D.pure (f x)) xs = D.pure (xs.map f) := by
  rw [compD_pure (fun _ => true) f xs]
  rw [List.filter_eq_self.mpr (fun _ _ => rfl)]
/-- each item gives what is so -/
theorem compD_any {me : α → D β} (R : α → β → Prop) (P : List β → Prop) (X : Ex → Prop) : ∀ (xs : List α), (∀ x ∈ xs, ∀ Q : β → Prop, (∀ y, R x y → Q y) → me x Q X) → (∀ ys, Paired R xs ys → P ys) → compD (fun _ => D.pure true) me xs P X
  | [], _, h => h [] .nil
  | x :: xs, hm, h => by
    show me x (fun y => compD (fun _ => D.pure true) me xs (fun ys => P (y :: ys)) X) X
    exact hm x (List.mem_cons_self ..) _ fun y ry => compD_any R _ X xs (fun z hz => hm z (List.mem_cons_of_mem _ hz)) fun ys pr => h (y :: ys) (.cons ry pr)
/-- what is kept is of what is walked: f tells which and what -/
theorem compD_fun {mt : α → D Bool} {me : α → D β} (p : α → Bool) (f : α → β) (P : List β → Prop) (X : Ex → Prop) : ∀ (xs : List α), (∀ x ∈ xs, ∀ Q : Bool → Prop, Q (p x) → mt x Q X) → (∀ x ∈ xs, p x = true → ∀ Q : β → Prop, Q (f x) → me x Q X) → P ((xs.filter p).map f) → compD mt me xs P X
  | [], _, _, h => h
  | x :: xs, h1, h2, h => by
    show mt x (fun b => (if b = true then D.bind (me x) fun y => D.bind (compD mt me xs) fun ys => D.pure (y :: ys) else compD mt me xs) P X) X
    refine h1 x (List.mem_cons_self ..) _ ?_
    rw [List.filter_cons] at h
    have r1 : ∀ z ∈ xs, ∀ Q : Bool → Prop, Q (p z) → mt z Q X := fun z hz => h1 z (List.mem_cons_of_mem _ hz)
    have r2 : ∀ z ∈ xs, p z = true → ∀ Q : β → Prop, Q (f z) → me z Q X := fun z hz => h2 z (List.mem_cons_of_mem _ hz)
    by_cases e : p x = true
    · rw [if_pos e] at h ⊢
      exact h2 x (List.mem_cons_self ..) e _ (compD_fun p f _ X xs r1 r2 h)
    · rw [if_neg e] at h ⊢
      exact compD_fun p f P X xs r1 r2 h
theorem paired_app {α β : Type} {R : α → β → Prop} : ∀ {a a' : List α} {b b' : List β}, Paired R a b → Paired R a' b' → Paired R (a ++ a') (b ++ b')
  | _, _, _, _, .nil, h => h
  | _, _, _, _, .cons r t, h => .cons r (paired_app t h)
theorem compD_mono (mt : α → D Bool) (me : α → D β) (P : List β → Prop) (X : Ex → Prop) (ys : List β) (x : α) (xs : List α) (h : compD mt me (x :: xs) (fun r => P (ys ++ r)) X) : mt x (fun b => if b = true then me x (fun y => compD mt me xs (fun r => P (ys ++ (y :: r))) X) X else compD mt me xs (fun r => P (ys ++ r)) X) X := by
  have h' : mt x (fun b => (if b = true then D.bind (me x) fun y => D.bind (compD mt me xs) fun ys => D.pure (y :: ys) else compD mt me xs) (fun r => P (ys ++ r)) X) X := h
  have e : (fun b => (if b = true then D.bind (me x) fun y => D.bind (compD mt me xs) fun ys => D.pure (y :: ys) else compD mt me xs) (fun r => P (ys ++ r)) X) = (fun b => if b = true then me x (fun y => compD mt me xs (fun r => P (ys ++ (y :: r))) X) X else compD mt me xs (fun r => P (ys ++ r)) X) := by
    funext b
    cases b <;> rfl
  rw [e] at h'
  exact h'
/-- what is in nobody's hands may change -/
theorem holds_loose {σ : L2.St} {w : Wd} {H : Hp} {d : Addr} (ho : w.own d = none) (hw : w.wl d = none) (o : HO) {c : Cell} (h : c.holds σ w H) : c.holds σ w (upd H d o) := by
  obtain ⟨K, i, x⟩ := c
  cases K with
  | p R => exact h
  | l R =>
    obtain ⟨v, e, L, vs, e1, e2, e3, e4, e5⟩ := h
    exact ⟨v, e, L, vs, e1, e2, by rw [upd_ne (fun z => by rw [z, ho] at e2; cases e2)]; exact e3, e4, e5⟩
  | w k =>
    obtain ⟨v, e, W, ns, e1, e2, e3, e4⟩ := h
    exact ⟨v, e, W, ns, e1, e2, by rw [upd_ne (fun z => by rw [z, hw] at e2; cases e2)]; exact e3, e4⟩
  | x => exact h
theorem go_loose {w : Wd} {H1 I' H' : Hp} {d : Addr} (hd : H1 d = none) (g : Go w H1 I' H') (id : I' d = none) (o : HO) : Go w H1 I' (upd H' d o) := by
  have ne : ∀ {b : Addr}, H1 b ≠ none → b ≠ d := fun h z => h (by rw [z]; exact hd)
  refine ⟨g.i, fun b u e => ?_, g.new, fun b u n e => by rw [upd_ne (ne (nn e))]; exact g.kept b u n e, fun b i ns n e => by rw [upd_ne (ne (nn e))]; exact g.wells b i ns n e, fun b h => by rw [upd_ne (ne h)]; exact g.dom b h⟩
  rw [upd_ne (fun z => by rw [z, id] at e; cases e)]
  exact g.sub _ _ e
theorem se_lc {wi : TI} {g : TG} {tt : TT} {te : TE} {vs is : List Nat} {A : Rp α} {R : Rp β} {cs : α → List Cell} {mi : D (List α)} {mt : α → D Bool} {me : α → D β} (hi : SI Z true Γ wi A mi) (hg : SG Z.K g A is cs) (hv : is.all (fun i => vs.contains i) = true) (hin : is.all (fun i => decide (i < Z.n)) = true)
    (ht : ∀ x, ST Z (cs x ++ (xs vs ++ Γ)) tt (mt x)) (he : ∀ x, SE Z false (cs x ++ (xs vs ++ Γ)) te R (me x)) : SE Z j Γ (tLc wi g tt te vs) (rL R) (D.bind mi fun ys => compD mt me ys) := fun φ σ w H Q P X hn hA hm k x =>
  hi φ σ w H _ _ X hn hA hm (fun ys T I1 H1 px g1 hl wk Dd hD => by
    have hA1 := hA.step g1
    have woff : ∀ j, j ∉ vs → (wipe σ vs)[j]? = σ[j]? := fun j h => wipe_out h
    have wlen : (wipe σ vs).length = φ.n := (wipe_length _ _).trans hA1.len
    have ownD : w.own Dd = none := by
      cases e : w.own Dd with
      | none => rfl
      | some i => exact absurd hD (hA1.go.apo _ _ e).2.1
    have wlD : w.wl Dd = none := by
      cases e : w.wl Dd with
      | none => rfl
      | some i => exact absurd hD (hA1.go.apw _ _ e).2
    have ID : I1 Dd = none := g1.sub.free hD
    have g0 : Go (w.to I1) H1 I1 (upd H1 Dd (.lst [])) := go_loose (w := w.to I1) hD (Go.rf (w := w.to I1) g1.sub) ID _
    have keepD : ∀ {I2 H2 : Hp} {us : List V} {I3 H3 : Hp}, Go (w.to I1) H1 I2 H2 → H2 Dd = some (.lst us) → I2 Dd = none → Go (w.to I2) H2 I3 H3 → H3 Dd = some (.lst us) ∧ I3 Dd = none := fun g2 e2 i2 g3 => ⟨g3.kept _ _ wlD e2, (g3.new Dd (nn e2)).trans i2⟩
    have holdW : ∀ {I2 H2 : Hp}, Hold σ (w.to I2) H2 Γ → Hold (wipe σ vs) (w.to I2) H2 (xs vs ++ Γ) := fun h => hold_tgt woff (xs_i vs) (xs_hold vs) h
    refine ⟨fun i m H' => ∃ I' zs us, i + m = ys.length ∧ Go (w.to I1) H1 I' H' ∧ Hold σ (w.to I') H' Γ ∧ H' Dd = some (.lst us) ∧ I' Dd = none ∧ Paired (R.rep I') us zs ∧ zs.length ≤ i ∧ compD mt me (ys.drop i) (fun r => P (zs ++ r)) X, ⟨ys.length, I1, [], [], by omega, g0, fun i c e => holds_loose (w := w.to I1) ownD wlD _ (hA1.hold i c e), upd_same, ID, .nil, Nat.le_refl _, px⟩, ?_⟩
    rintro i m H' ⟨I', zs, us, em, go', hold', eD, iD, pr, yl, pf⟩
    have at0 : At φ Γ σ (w.to I') H' := ⟨(hA1.step go').go, hA1.len, hold'⟩
    by_cases hend : i = ys.length
    · left
      subst hend
      rw [List.drop_length] at pf
      refine ⟨wk.stop H' ((tp_go (j := true) go').trans (tp_sub (j := true) go'.sub)), ?_⟩
      have pf' : P (zs ++ []) := pf
      rw [List.append_nil] at pf'
      have s2 : Same I' (upd I' Dd (.lst us)) := My.same_upd iD
      have nD : ∀ {b : Addr}, b ≠ Dd → (upd I' Dd (.lst us)) b = I' b := fun h => upd_ne h
      have old : ∀ {b : Addr}, H1 b ≠ none → b ≠ Dd := fun hb z => hb (by rw [z]; exact hD)
      have go2 : Go (w.to I1) H1 (upd I' Dd (.lst us)) H' := by
        refine ⟨go'.i.trans s2, fun b o e => ?_, fun b hb => (nD (old hb)).trans (go'.new b hb), go'.kept, go'.wells, go'.dom⟩
        by_cases z : b = Dd
        · subst z
          rw [upd_same] at e
          rw [eD]
          exact e
        · rw [upd_ne z] at e
          exact go'.sub _ _ e
      have g3 := g1.trans go2
      exact k zs _ _ H' pf' g3 ((rL R).up (i_tp (w := w.to _) j (hA.step g3).go) ⟨Dd, us, rfl, upd_same, Nat.le_trans yl hl, prd_mono R s2 pr⟩)
    · right
      have hi' : i < ys.length := by omega
      refine ⟨wk.go i H' hi' ((tp_go (j := true) go').trans (tp_sub (j := true) go'.sub)), fun H2 => ∃ I2 zs2 us2, Go (w.to I1) H1 I2 H2 ∧ Hold σ (w.to I2) H2 Γ ∧ H2 Dd = some (.lst us2) ∧ I2 Dd = none ∧ Paired (R.rep I2) us2 zs2 ∧ zs2.length ≤ i + 1 ∧ compD mt me (ys.drop (i + 1)) (fun r => P (zs2 ++ r)) X,
        fun H2 ⟨I2, zs2, us2, a1, a2, a3, a4, a5, a6, a7⟩ => ⟨m - 1, by omega, I2, zs2, us2, by omega, a1, a2, a3, a4, a5, a6, a7⟩, fun y H2 hy => ?_⟩
      obtain ⟨a, I2, ea, gw, ra⟩ := wk.yld i I' H' y H2 hi' ((tp_go (j := true) go').trans (tp_sub (j := true) go'.sub)) go'.i go'.sub hy
      have go2 : Go (w.to I') H' I2 H2 := .of_gw gw
      have at2 : At φ Γ σ (w.to I2) H2 := at0.step go2
      have ed : ys.drop i = a :: ys.drop (i + 1) := by
        rw [List.drop_eq_getElem_cons hi']
        rw [List.getElem?_eq_getElem hi'] at ea
        cases ea
        rfl
      rw [ed] at pf
      have pf := compD_mono mt me P X zs a _ pf
      obtain ⟨eD2, iD2⟩ := keepD go' eD iD go2
      refine hg.2 y a (wipe σ vs) (w.to I2) H2 φ.n _ wlen (fun i z => by rw [hn]; exact of_decide_eq_true (List.all_eq_true.mp hin i z)) go2.sub ra fun σ2 hl2 he2 hh2 => ⟨?_, ?_⟩
      · rw [← wipe_wipe σ vs]
        refine wipe_eq (fun j hj => he2 j fun z => hj ?_) (hl2.trans wlen.symm)
        have := List.all_eq_true.mp hv j z
        simpa using this
      · have at3 : At φ (cs a ++ (xs vs ++ Γ)) σ2 (w.to I2) H2 := ⟨at2.go, hl2, hold_tgt he2 (hg.1 a) hh2 (holdW at2.hold)⟩
        refine ht a φ σ2 (w.to I2) H2 _ _ X hn at3 pf (fun b I3 H3 pb go3 => ?_) (xg ((g1.trans go').trans go2) x)
        obtain ⟨eD3, iD3⟩ := keepD (go'.trans go2) eD2 iD2 go3
        have at4 := at2.step go3
        cases b with
        | false => exact ⟨I3, zs, us, (go'.trans go2).trans go3, at4.hold, eD3, iD3, prd_mono R (go2.trans go3).i pr, by omega, pb⟩
        | true =>
          refine he a φ σ2 (w.to I3) H3 _ _ X hn (at3.step go3) pb (fun z v I4 H4 pz go4 rz => ?_) (xg (((g1.trans go').trans go2).trans go3) x)
          obtain ⟨eD4, iD4⟩ := keepD ((go'.trans go2).trans go3) eD3 iD3 go4
          have go5 := ((go'.trans go2).trans go3).trans go4
          have at5 := at4.step go4
          refine ⟨us, eD4, Nat.lt_of_lt_of_le (show us.length < ys.length by rw [prd_len pr]; omega) hl, I4, zs ++ [z], us ++ [v], go_loose hD go5 iD4 _, fun i c e => holds_loose (w := w.to I4) ownD wlD _ (at5.hold i c e), upd_same, iD4, paired_app (prd_mono R ((go2.trans go3).trans go4).i pr) (.cons rz .nil), by rw [List.length_append]; simp; omega, ?_⟩
          have e : (fun r => P (zs ++ [z] ++ r)) = (fun r => P (zs ++ (z :: r))) := by
            funext r
            rw [List.append_assoc]
            rfl
          rw [e]
          exact pz)
    x
/-! ### wells -/
structure Gv (W : Addr) (k : Nat) (I H I' H' : Hp) : Prop where
  i : Same I I'
  sub : Same I' H'
  h : ∀ b o, b ≠ W → H b = some o → H' b = some o
  wl : ∃ ns : List Int, H' W = some (.lst (ns.map V.int)) ∧ ns.length = k
  new : ∀ b, H b ≠ none → I' b = I b
theorem Go.of_gv {w : Wd} {H I' H' : Hp} {W : Addr} {k i : Nat} {ns : List Int} (e1 : w.wl W = some i) (e2 : H W = some (.lst (ns.map V.int))) (e3 : ns.length = k) (g : Gv W k w.I H I' H') : Go w H I' H' := by
  refine ⟨g.i, g.sub, g.new, fun b o hb h => g.h b o (fun z => by rw [z, e1] at hb; cases hb) h, fun b i' ns' h1 h3 => ?_, fun b hb => ?_⟩
  · by_cases z : b = W
    · subst z
      obtain ⟨n2, q1, q2⟩ := g.wl
      rw [e2] at h3
      have q : ns.map V.int = ns'.map V.int := by injection (Option.some.inj h3)
      have q' := congrArg List.length q
      simp only [List.length_map] at q'
      exact ⟨n2, q1, by omega⟩
    · exact ⟨ns', g.h _ _ z h3, rfl⟩
  · by_cases z : b = W
    · subst z
      obtain ⟨_, q, _⟩ := g.wl
      exact nn q
    · obtain ⟨o, e⟩ := sm hb
      exact nn (g.h b o z e)
/-- a draw: any number below the bound -/
def spDr (k : Nat) (lim : Int) : Sp := fun vs H Q _ => ∃ (W : Addr) (ns : List Int) (m : Int), vs = [.ref W, .int m] ∧ 0 < m ∧ m < lim ∧ H W = some (.lst (ns.map V.int)) ∧ ns.length = k ∧
  ∀ r H', 0 ≤ r → r < m → (∀ b o, b ≠ W → H b = some o → H' b = some o) → (∃ ns' : List Int, H' W = some (.lst (ns'.map V.int)) ∧ ns'.length = k) → Q (.int r) H'
theorem dr_of_draw : ∀ vs H Q E, spDr 3 1073741824 vs H Q E → My.spDraw vs H Q E := fun vs H Q E ⟨W, ns, m, e, h1, h2, hw, hl, q⟩ => by
  obtain ⟨a, b, c, rfl⟩ : ∃ a b c, ns = [a, b, c] := match ns, hl with
    | [a, b, c], _ => ⟨a, b, c, rfl⟩
  exact ⟨W, m, e, h1, h2, ⟨a, b, c, hw⟩, fun r H' r0 r1 x => q r H' r0 r1 (fun b o n h => x.keep b o n h) (by
    obtain ⟨a', b', c', hw'⟩ := x.well
    exact ⟨[a', b', c'], hw', rfl⟩)⟩
theorem se_draw {E : XK} {k i : Nat} {lim : Int} {tm : TE} {mm : D Int} (hw : look Γ i = some ⟨.w k, i, ()⟩) (hm' : SE Z true Γ tm rI mm) : SE Z j Γ (tCall (spDr k lim) [] E (tCons (tVar i) (tCons tm tNil))) rI (D.bind mm fun m => D.need (0 < m ∧ m < lim) (D.any fun r => 0 ≤ r ∧ r < m)) := fun φ σ w H Q P X hn hA hm kk x => by
  obtain ⟨v, e, _⟩ := hA.hold i _ hw
  refine ⟨v, e, hm' φ σ w H _ _ X hn hA hm (fun m u I1 H1 pm s1 rm => ?_) x⟩
  obtain ⟨v', e', W, ns, f1, f2, f3, f4⟩ := (hA.step s1).hold i _ hw
  rw [e] at e'
  cases e'
  subst f1
  cases (show u = .int m from rm)
  refine ⟨W, ns, m, rfl, pm.1.1, pm.1.2, f3, f4, fun r H' r0 r1 hk hw' => ?_⟩
  have hi := (hA.step s1).go.apw W i f2
  have g2 : Go (w.to I1) H1 I1 H' := Go.of_gv (w := w.to I1) f2 f3 f4 ⟨Same.refl _, fun b o q => hk b o (fun z => by
    have hi1 : I1 W = none := hi.1
    rw [z, hi1] at q; cases q) (s1.sub _ _ q), hk, hw', fun _ _ => rfl⟩
  exact kk r _ I1 H' (pm.2 r ⟨r0, r1⟩) (s1.trans g2) rfl
/-- a def that draws from a well, its first argument, and changes nothing else -/
def spW (k : Nat) (S : Rps β) (R : Rp γ) (m : β → D γ) : Sp := fun vs H Q _ => ∃ (W : Addr) (ns : List Int) (vs' : List V) (I : Hp) (b : β) (P : γ → Prop), vs = .ref W :: vs' ∧ H W = some (.lst (ns.map V.int)) ∧ ns.length = k ∧ I W = none ∧ Same I H ∧ S.rep I vs' b ∧ m b P (fun _ => False) ∧
  ∀ c v I' H', P c → Gv W k I H I' H' → R.rep I' v c → Q v H'
theorem spW.imp {k : Nat} {S : Rps β} {R : Rp γ} {m m' : β → D γ} (h : ∀ b P, m' b P (fun _ => False) → m b P (fun _ => False)) : ∀ vs H Q E, spW k S R m' vs H Q E → spW k S R m vs H Q E := fun _ _ _ _ ⟨W, ns, vs', I, b, P, a1, a2, a3, a4, a5, a6, a7, a8⟩ => ⟨W, ns, vs', I, b, P, a1, a2, a3, a4, a5, a6, h b P a7, a8⟩
theorem se_callW {E : XK} {k i : Nat} {t : TA} {S : Rps β} {R : Rp γ} {mb : D β} {m : β → D γ} (hw : look Γ i = some ⟨.w k, i, ()⟩) (h : SA Z false Γ t S mb) : SE Z j Γ (tCall (spW k S R m) [] E (tCons (tVar i) t)) R (D.bind mb fun b => D.nox (m b)) := fun φ σ w H Q P X hn hA hm kk x => by
  obtain ⟨v, e, _⟩ := hA.hold i _ hw
  refine ⟨v, e, h φ σ w H _ _ X hn hA hm (fun b us I1 H1 pb s1 rb => ?_) x⟩
  obtain ⟨v', e', W, ns, f1, f2, f3, f4⟩ := (hA.step s1).hold i _ hw
  rw [e] at e'
  cases e'
  subst f1
  rw [List.append_nil]
  have hi := (hA.step s1).go.apw W i f2
  refine ⟨W, ns, us, I1, b, P, rfl, f3, f4, hi.1, s1.sub, rb, pb, fun c u I' H' pc g rc => ?_⟩
  have g2 := s1.trans (Go.of_gv (w := w.to I1) f2 f3 f4 g)
  exact kk c u I' H' pc g2 (R.up (i_tp (w := w.to I') j (hA.step g2).go) rc)
variable {S L S' : Type} {R : Rp γ} {Γn : S → List Cell} {Γl : L → List Cell}
/-- a new well -/
def spWl (k : Nat) : Sp := fun vs H Q _ => ∃ n : Int, vs = [.int n] ∧ ∀ (p : Addr) (ns : List Int), H p = none → ns.length = k → Q (.ref p) (upd H p (.lst (ns.map V.int)))
theorem wl_of_well : ∀ vs H Q E, spWl 3 vs H Q E → My.spWell vs H Q E := fun vs H Q E ⟨n, e, q⟩ => ⟨n, e, fun p a b c hp => q p [a, b, c] hp rfl⟩
/-- a slot comes to own what is new -/
theorem holds_fresh {σ : L2.St} {w : Wd} {H : Hp} {p : Addr} {own' wl' : Addr → Option Nat} (hp : H p = none) (o : HO) (ho : ∀ b, b ≠ p → own' b = w.own b) (hw : ∀ b, b ≠ p → wl' b = w.wl b) {c : Cell} (h : c.holds σ w H) : c.holds σ ⟨w.I, own', wl'⟩ (upd H p o) := by
  obtain ⟨K, i, x⟩ := c
  cases K with
  | p R => exact h
  | l R =>
    obtain ⟨v, e, L, vs, e1, e2, e3, e4, e5⟩ := h
    have z : L ≠ p := ne_of_none e3 hp
    exact ⟨v, e, L, vs, e1, (ho L z).trans e2, by rw [upd_ne z]; exact e3, e4, e5⟩
  | w k =>
    obtain ⟨v, e, W, ns, e1, e2, e3, e4⟩ := h
    have z : W ≠ p := ne_of_none e3 hp
    exact ⟨v, e, W, ns, e1, (hw W z).trans e2, by rw [upd_ne z]; exact e3, e4⟩
  | x => exact h
theorem gf_fresh {w0 w : Wd} {H0 H : Hp} {p : Addr} {own' wl' : Addr → Option Nat} (g : Gf w0 H0 w H) (hp : H p = none) (o : HO) (ho : ∀ b, b ≠ p → own' b = w.own b) (hw : ∀ b, b ≠ p → wl' b = w.wl b) (one : own' p ≠ none → wl' p = none) : Gf w0 H0 ⟨w.I, own', wl'⟩ (upd H p o) := by
  have old : ∀ {b : Addr}, H0 b ≠ none → b ≠ p := fun {b} h z => g.dom b h (by rw [z]; exact hp)
  have up : ∀ {b : Addr}, H b ≠ none → (upd H p o) b ≠ none := fun {b} h => by
    obtain ⟨u, e⟩ := sm h
    rw [upd_ne (ne_of_none e hp)]
    exact h
  have ip : w.I p = none := g.sub.free hp
  refine ⟨g.i, g.inew, fun b h => (ho b (old h)).trans (g.onew b h), fun b h => (hw b (old h)).trans (g.wnew b h), fun b u h2 h3 => by rw [upd_ne (old (nn h3))]; exact g.keep b u h2 h3, fun b u e => ?_, fun b i e => ?_, fun b i e => ?_, fun b i ns h1 h3 => by rw [upd_ne (old (nn h3))]; exact g.wells b i ns h1 h3, fun b h => up (g.dom b h)⟩
  · rw [upd_ne (fun z => by rw [z, ip] at e; cases e)]
    exact g.sub _ _ e
  · have e' : own' b = some i := e
    by_cases z : b = p
    · subst z
      exact ⟨ip, nn upd_same, one (by rw [e']; exact fun z => nomatch z)⟩
    · rw [ho b z] at e'
      exact ⟨(g.apo b i e').1, up (g.apo b i e').2.1, (hw b z).trans (g.apo b i e').2.2⟩
  · have e' : wl' b = some i := e
    by_cases z : b = p
    · subst z
      exact ⟨ip, nn upd_same⟩
    · rw [hw b z] at e'
      exact ⟨(g.apw b i e').1, up (g.apw b i e').2⟩
theorem own_fresh {φ : Fr} {σ : L2.St} {w : Wd} {H : Hp} (hA : At φ Γ σ w H) {p : Addr} (hp : H p = none) : w.own p = none ∧ w.wl p = none := by
  constructor
  · cases e : w.own p with
    | none => rfl
    | some i => exact absurd hp (hA.go.apo _ _ e).2.1
  · cases e : w.wl p with
    | none => rfl
    | some i => exact absurd hp (hA.go.apw _ _ e).2
theorem at_well {φ : Fr} {σ : L2.St} {w : Wd} {H : Hp} {i k : Nat} {p : Addr} {ns : List Int} (hA : At φ Γ σ w H) (hi : i < φ.n) (hp : H p = none) (hl : ns.length = k) : At φ (⟨.w k, i, ()⟩ :: Γ) (σ.set i (some (.ref p))) ⟨w.I, w.own, fun b => if b = p then some i else w.wl b⟩ (upd H p (.lst (ns.map V.int))) := by
  have ho : ∀ b, b ≠ p → w.own b = w.own b := fun _ _ => rfl
  have hw : ∀ b, b ≠ p → (fun b => if b = p then some i else w.wl b) b = w.wl b := fun b z => if_neg z
  refine ⟨gf_fresh hA.go hp _ ho hw (fun z => absurd (own_fresh hA hp).1 z), by rw [List.length_set]; exact hA.len, ?_⟩
  exact hold_tgt (cs := [⟨.w k, i, ()⟩]) (is := [i]) (fun j hj => set_off (by simpa using hj)) rfl (holdC1 ⟨_, set_at (by rw [hA.len]; exact hi), p, ns, rfl, if_pos rfl, upd_same, hl⟩) (fun j c e => holds_fresh hp _ ho hw (hA.hold j c e))
theorem sb_well {E : XK} {k i : Nat} {te : TE} {u : TS} {me : D Int} {m : M γ S L} (hi : i < Z.n) (he : SE Z true Γ te rI me) (hu : SB Z (⟨.w k, i, ()⟩ :: Γ) u R Γn Γl m) :
    SB Z Γ (tSeq (tAsg (tCall (spWl k) [] E (tCons te tNil)) (gName i)) u) R Γn Γl (fun rt nx bk ct X => me (fun _ => m rt nx bk ct X) X) := fun φ σ w H Dn rt nx bk ct X hn hA hm k1 k2 k3 k4 k5 =>
  he φ σ w H _ _ X hn hA hm (fun a v I' H' pa s r => by
    cases (show v = .int a from r)
    refine ⟨a, rfl, fun p ns hp hl => ?_⟩
    exact hu φ (σ.set i (some (.ref p))) _ _ Dn rt nx bk ct X hn (at_well (hA.step s) (by rw [hn]; exact hi) hp hl) pa k1 (kk2 s.i k2) (kk2 s.i k3) (kk2 s.i k4) k5)
    (kx hA.go k5)
/-! ### lists of a slot's own -/
theorem at_newL {φ : Fr} {σ : L2.St} {w : Wd} {H : Hp} {i : Nat} {p : Addr} {A : Rp α} {us : List V} {ys : List α} (hA : At φ Γ σ w H) (hi : i < φ.n) (hp : H p = none) (hl : ys.length ≤ sizeLine) (pr : Paired (A.rep w.I) us ys) : At φ (⟨.l A, i, ys⟩ :: Γ) (σ.set i (some (.ref p))) ⟨w.I, fun b => if b = p then some i else w.own b, w.wl⟩ (upd H p (.lst us)) := by
  have ho : ∀ b, b ≠ p → (fun b => if b = p then some i else w.own b) b = w.own b := fun b z => if_neg z
  have hw : ∀ b, b ≠ p → w.wl b = w.wl b := fun _ _ => rfl
  refine ⟨gf_fresh hA.go hp _ ho hw (fun _ => (own_fresh hA hp).2), by rw [List.length_set]; exact hA.len, ?_⟩
  exact hold_tgt (cs := [⟨.l A, i, ys⟩]) (is := [i]) (fun j hj => set_off (by simpa using hj)) rfl (holdC1 ⟨_, set_at (by rw [hA.len]; exact hi), p, us, rfl, if_pos rfl, upd_same, hl, pr⟩) (fun j c e => holds_fresh hp _ ho hw (hA.hold j c e))
/-- x = [a, b, ..] -/
theorem sb_newL {i : Nat} {t : TA} {u : TS} {A : Rp α} {me : D (List α)} {m : List α → M γ S L} (hi : i < Z.n) (he : SA Z false Γ t (rsL A) me) (hu : ∀ ys, SB Z (⟨.l A, i, ys⟩ :: Γ) u R Γn Γl (m ys)) :
    SB Z Γ (tSeq (tAsg (tLst t) (gName i)) u) R Γn Γl (fun rt nx bk ct X => me (fun ys => ys.length ≤ sizeLine ∧ m ys rt nx bk ct X) X) := fun φ σ w H Dn rt nx bk ct X hn hA hm k1 k2 k3 k4 k5 =>
  he φ σ w H _ _ X hn hA hm (fun ys us I' H' pa s r => by
    have r' : Paired (A.rep I') us ys := r
    refine ⟨by rw [prd_len r']; exact pa.1, fun p hp => ?_⟩
    exact hu ys φ (σ.set i (some (.ref p))) _ _ Dn rt nx bk ct X hn (at_newL (hA.step s) (by rw [hn]; exact hi) hp pa.1 r') pa.2 k1 (kk2 s.i k2) (kk2 s.i k3) (kk2 s.i k4) k5)
    (kx hA.go k5)
/-- x = [] -/
theorem sb_nilL {i : Nat} {u : TS} (A : Rp α) {m : M γ S L} (hi : i < Z.n) (hu : SB Z (⟨.l A, i, []⟩ :: Γ) u R Γn Γl m) :
    SB Z Γ (tSeq (tAsg (tLst tNil) (gName i)) u) R Γn Γl m := fun φ σ w H Dn rt nx bk ct X hn hA hm k1 k2 k3 k4 k5 =>
  ⟨Nat.zero_le _, fun p hp => hu φ (σ.set i (some (.ref p))) _ _ Dn rt nx bk ct X hn (at_newL hA (by rw [hn]; exact hi) hp (Nat.zero_le _) .nil) hm k1 k2 k3 k4 k5⟩
/-- the list of slot i changes -/
theorem at_chL {φ : Fr} {σ : L2.St} {w : Wd} {H : Hp} {i : Nat} {A B : Rp α} {Lx : Addr} {us : List V} {ys : List α} (a : At φ Γ σ w H) (e : σ[i]? = some (some (.ref Lx))) (e1 : w.own Lx = some i) (hl : ys.length ≤ sizeLine) (pr : Paired (A.rep w.I) us ys) : At φ (⟨.l A, i, ys⟩ :: Γ) σ w (upd H Lx (.lst us)) := by
  have old : ∀ {b : Addr}, φ.H0 b ≠ none → b ≠ Lx := fun {b} h z => by
    have := a.go.onew b h
    rw [z, e1] at this
    cases this
  have up : ∀ {b : Addr}, H b ≠ none → (upd H Lx (.lst us)) b ≠ none := fun {b} h => by
    by_cases z : b = Lx
    · subst z
      exact nn upd_same
    · rw [upd_ne z]
      exact h
  have ip : w.I Lx = none := (a.go.apo Lx i e1).1
  refine ⟨⟨a.go.i, a.go.inew, a.go.onew, a.go.wnew, fun b u h2 h3 => by rw [upd_ne (old (nn h3))]; exact a.go.keep b u h2 h3, fun b u q => ?_, fun b i q => ⟨(a.go.apo b i q).1, up (a.go.apo b i q).2.1, (a.go.apo b i q).2.2⟩, fun b i q => ⟨(a.go.apw b i q).1, up (a.go.apw b i q).2⟩, fun b i ns h1 h3 => by rw [upd_ne (old (nn h3))]; exact a.go.wells b i ns h1 h3, fun b h => up (a.go.dom b h)⟩, a.len, fun k c q => ?_⟩
  · rw [upd_ne (fun z => by rw [z, ip] at q; cases q)]
    exact a.go.sub _ _ q
  · have q' : (match Nat.beq i k with | true => some (⟨.l A, i, ys⟩ : Cell) | false => look Γ k) = some c := q
    cases z : Nat.beq i k with
    | true =>
      rw [z] at q'
      cases q'
      exact ⟨_, e, Lx, us, rfl, e1, upd_same, hl, pr⟩
    | false =>
      rw [z] at q'
      have nz : i ≠ k := Nat.ne_of_beq_eq_false z
      have hi := look_i q'
      have hc := a.hold k c q'
      obtain ⟨K, k2, x⟩ := c
      subst hi
      cases K with
      | p R => exact hc
      | l R =>
        obtain ⟨v, q, L', vs, f1, f2, f3, f4, f5⟩ := hc
        exact ⟨v, q, L', vs, f1, f2, by rw [upd_ne (fun z => nz (by rw [z, e1] at f2; exact Option.some.inj f2))]; exact f3, f4, f5⟩
      | w k =>
        obtain ⟨v, q, W, ns, f1, f2, f3, f4⟩ := hc
        exact ⟨v, q, W, ns, f1, f2, by rw [upd_ne (fun z => by rw [z, (a.go.apo Lx i e1).2.2] at f2; cases f2)]; exact f3, f4⟩
      | x => exact hc
/-- x.append(e) -/
theorem sb_app {i : Nat} {te : TE} {u : TS} {A : Rp α} {xs : List α} {me : D α} {m : α → M γ S L} (hl : look Γ i = some ⟨.l A, i, xs⟩) (he : SE Z false Γ te A me) (hu : ∀ a, SB Z (⟨.l A, i, xs ++ [a]⟩ :: Γ) u R Γn Γl (m a)) :
    SB Z Γ (tSeq (tDrop (tBM Z.K "list" rAppend (tVar i) (tCons te tNil))) u) R Γn Γl (fun rt nx bk ct X => me (fun a => xs.length < sizeLine ∧ m a rt nx bk ct X) X) := fun φ σ w H Dn rt nx bk ct X hn hA hm k1 k2 k3 k4 k5 => by
  obtain ⟨v, e, Lx, vs, f1, f2, f4, f5, f6⟩ := hA.hold i _ hl
  subst f1
  refine ⟨_, e, .inl ⟨rfl, _, SqL.of f4⟩, he φ σ w H _ _ X hn hA hm (fun a v I' H' pa s r => ?_) (kx hA.go k5)⟩
  have hA' := hA.step s
  obtain ⟨v', e', L', vs', g1, g2, g4, g5, g6⟩ := hA'.hold i _ hl
  rw [e] at e'
  cases e'
  cases g1
  refine ⟨Lx, vs', v, rfl, rfl, g4, by rw [prd_len g6]; exact pa.1, ?_⟩
  exact hu a φ σ (w.to I') _ Dn rt nx bk ct X hn (at_chL (A := A) (B := A) hA' e g2 (by rw [List.length_append]; exact pa.1) (paired_app g6 (.cons r .nil))) pa.2 k1 (kk2 s.i k2) (kk2 s.i k3) (kk2 s.i k4) k5
theorem at_frz {φ : Fr} {σ : L2.St} {w : Wd} {H : Hp} {i : Nat} {A : Rp α} {xs : List α} (hA : At φ Γ σ w H) (hl : look Γ i = some ⟨.l A, i, xs⟩) : ∃ w', At φ (⟨.p (rL A), i, xs⟩ :: Γ) σ w' H ∧ Same w.I w'.I := by
  obtain ⟨v, e, Lx, vs, f1, f2, f4, f5, f6⟩ := hA.hold i _ hl
  subst f1
  have old : ∀ {b : Addr}, φ.H0 b ≠ none → b ≠ Lx := fun {b} h z => by
    have := hA.go.onew b h
    rw [z, f2] at this
    cases this
  have ip : w.I Lx = none := (hA.go.apo Lx i f2).1
  have s1 : Same w.I (upd w.I Lx (.lst vs)) := My.same_upd ip
  refine ⟨⟨upd w.I Lx (.lst vs), fun b => if b = Lx then none else w.own b, w.wl⟩, ⟨⟨hA.go.i.trans s1, fun b hb => (show (upd w.I Lx (.lst vs)) b = w.I b from upd_ne (old hb)).trans (hA.go.inew b hb), fun b hb => (if_neg (old hb)).trans (hA.go.onew b hb), hA.go.wnew, hA.go.keep, fun b o q => ?_, fun b j q => ?_, fun b j q => ?_, hA.go.wells, hA.go.dom⟩, hA.len, fun k c q => ?_⟩, s1⟩
  · have q' : (upd w.I Lx (.lst vs)) b = some o := q
    by_cases z : b = Lx
    · subst z
      rw [upd_same] at q'
      rw [f4]
      exact q'
    · rw [upd_ne z] at q'
      exact hA.go.sub _ _ q'
  · have q' : (if b = Lx then none else w.own b) = some j := q
    by_cases z : b = Lx
    · rw [if_pos z] at q'
      cases q'
    · rw [if_neg z] at q'
      exact ⟨(show (upd w.I Lx (.lst vs)) b = w.I b from upd_ne z).trans (hA.go.apo b j q').1, (hA.go.apo b j q').2⟩
  · have z : b ≠ Lx := fun z => by
      have q' : w.wl b = some j := q
      rw [z, (hA.go.apo Lx i f2).2.2] at q'
      cases q'
    exact ⟨(show (upd w.I Lx (.lst vs)) b = w.I b from upd_ne z).trans (hA.go.apw b j q).1, (hA.go.apw b j q).2⟩
  · have q' : (match Nat.beq i k with | true => some (⟨.p (rL A), i, xs⟩ : Cell) | false => look Γ k) = some c := q
    cases z : Nat.beq i k with
    | true =>
      rw [z] at q'
      cases q'
      exact ⟨_, e, Lx, vs, rfl, upd_same, f5, prd_mono A s1 f6⟩
    | false =>
      rw [z] at q'
      have nz : i ≠ k := Nat.ne_of_beq_eq_false z
      have hi := look_i q'
      have hc := hA.hold k c q'
      obtain ⟨K, k2, x⟩ := c
      subst hi
      cases K with
      | p R =>
        obtain ⟨v, q, h⟩ := hc
        exact ⟨v, q, R.mn s1 h⟩
      | l R =>
        obtain ⟨v, q, L', vs', g1, g2, g3, g4, g5⟩ := hc
        exact ⟨v, q, L', vs', g1, (if_neg (fun z => nz (by rw [z, f2] at g2; exact Option.some.inj g2))).trans g2, g3, g4, prd_mono R s1 g5⟩
      | w k => exact hc
      | x => exact hc
/-- a list of a slot's own is left as it is from here on -/
theorem sb_frz (i : Nat) {t : TS} {A : Rp α} {xs : List α} {m : M γ S L} (hl : look Γ i = some ⟨.l A, i, xs⟩) (hu : SB Z (⟨.p (rL A), i, xs⟩ :: Γ) t R Γn Γl m) : SB Z Γ t R Γn Γl m := fun φ σ w H Dn rt nx bk ct X hn hA hm k1 k2 k3 k4 k5 => by
  obtain ⟨w', hA', s⟩ := at_frz hA hl
  exact hu φ σ w' H Dn rt nx bk ct X hn hA' hm k1 (kk2 s k2) (kk2 s k3) (kk2 s k4) k5
/-! ### defs -/
/-- the parameters' slots -/
def Prm (S : Rps β) (i : Nat) (cs : β → List Cell) : Prop := ∀ (J I : Hp) (vs : List V) (b : β) (σ : L2.St) (w : Wd) (H : Hp), S.top J I vs b → Same J w.I → Same I w.I → (∀ k v, vs[k]? = some v → σ[i + k]? = some (some v)) → HoldC σ w H (cs b)
theorem prm_nil {i : Nat} : Prm rs0 i (fun _ => []) := fun _ _ _ _ _ _ _ _ _ _ _ c hc => nomatch hc
theorem prm_cons {i : Nat} {A : Rp α} {S : Rps β} {cs : β → List Cell} (h : Prm S (i + 1) cs) : Prm (rsC A S) i (fun b => ⟨.p A, i, b.1⟩ :: cs b.2) := fun J I vs b σ w H ⟨v, r, e, ha, hs⟩ sj si hσ => by
  subst e
  exact holdCc ⟨v, hσ 0 v rfl, A.mono sj si ha⟩ (h J I r b.2 σ w H hs sj si (fun k u q => by
    have := hσ (k + 1) u (by simpa using q)
    rw [show i + 1 + k = i + (k + 1) by omega]
    exact this))
theorem start_at {N : List Str} {vs : List V} {k : Nat} {v : V} (h : vs[k]? = some v) (l : vs.length ≤ N.length) : (L2.start N vs)[k]? = some (some v) := by
  unfold L2.start
  have hk := (List.getElem?_eq_some_iff.mp h).1
  rw [List.getElem?_append_left (by rw [List.length_map]; exact hk), List.getElem?_map, h]
  rfl
theorem start_len {N : List Str} {vs : List V} (l : vs.length ≤ N.length) : (L2.start N vs).length = N.length := by
  unfold L2.start
  rw [List.length_append, List.length_map, List.length_replicate]
  omega
theorem hold_of {σ : L2.St} {w : Wd} {H : Hp} {cs : List Cell} (h : HoldC σ w H cs) : Hold σ w H cs := fun i c e => by
  rcases look_app (Γ := []) (by rw [List.append_nil]; exact e) with q | ⟨_, q⟩
  · exact h c q
  · cases q
/-- a body read: a def that changes nothing and raises nothing -/
theorem fn0 {K : PySem.W.Frag} {mg : Str → Option Value} {N : List Str} {t : TS} {S0 : Rps β} {R : Rp γ} {cs : β → List Cell} {m0 : β → D γ} {m : β → M γ Unit Unit} (pr : Prm S0 0 cs) (pl : ∀ J I vs b, S0.top J I vs b → vs.length ≤ N.length) {Γn : β → Unit → List Cell} {Γl : β → Unit → List Cell}
    (hb : ∀ b, SB ⟨K, mg, fun _ _ _ => False, N.length⟩ (cs b) t R (Γn b) (Γl b) (m b))
    (hm : ∀ b P, m0 b P (fun _ => False) → m b P (fun _ => False) (fun _ => False) (fun _ => False) (fun _ => False)) {vs : List V} {H : Hp} {Q : VK} {E : XK} {q : L2.St → Hp → Prop} (h : spF0 S0 R m0 vs H Q E) : t { nx := q, rt := Q } (L2.start N vs) H := by
  obtain ⟨I, b, P, s, rp, km, kq⟩ := h
  have l := pl _ _ _ _ rp
  refine hb b ⟨N.length, ⟨I, fun _ => none, fun _ => none⟩, H⟩ (L2.start N vs) ⟨I, fun _ => none, fun _ => none⟩ H _ P _ _ _ _ rfl ⟨⟨Same.refl _, fun _ _ => rfl, fun _ _ => rfl, fun _ _ => rfl, fun _ _ _ h => h, s, (fun _ _ h => nomatch h), (fun _ _ h => nomatch h), fun _ _ ns _ h => ⟨ns, h, rfl⟩, fun _ h => h⟩, start_len l, hold_of (pr I I vs b _ _ H rp (Same.refl _) (Same.refl _) fun k v e => by rw [Nat.zero_add]; exact start_at e l)⟩ (hm b P km) (fun c v w' H' pc g r => kq c v w'.I H' pc ⟨g.i, g.sub, fun b o h => g.keep b o rfl h, g.inew⟩ r) (fun _ _ _ _ z => z.elim) (fun _ _ _ _ z => z.elim) (fun _ _ _ _ z => z.elim) (fun _ _ _ _ _ z => z.elim)
/-- one that returns nothing at its end too -/
theorem fn0N {K : PySem.W.Frag} {mg : Str → Option Value} {N : List Str} {t : TS} {S0 : Rps β} {cs : β → List Cell} {m0 : β → D Unit} {m : β → M Unit Unit Unit} (pr : Prm S0 0 cs) (pl : ∀ J I vs b, S0.top J I vs b → vs.length ≤ N.length) {Γl : β → Unit → List Cell}
    (hb : ∀ b, SB ⟨K, mg, fun _ _ _ => False, N.length⟩ (cs b) t rN (fun _ => cs b) (Γl b) (m b))
    (hm : ∀ b P, m0 b P (fun _ => False) → m b P P (fun _ => False) (fun _ => False) (fun _ => False)) {vs : List V} {H : Hp} {Q : VK} {E : XK} (h : spF0 S0 rN m0 vs H Q E) : t { nx := fun _ H' => Q .non H', rt := Q } (L2.start N vs) H := by
  obtain ⟨I, b, P, s, rp, km, kq⟩ := h
  have l := pl _ _ _ _ rp
  refine hb b ⟨N.length, ⟨I, fun _ => none, fun _ => none⟩, H⟩ (L2.start N vs) ⟨I, fun _ => none, fun _ => none⟩ H _ P _ _ _ _ rfl ⟨⟨Same.refl _, fun _ _ => rfl, fun _ _ => rfl, fun _ _ => rfl, fun _ _ _ h => h, s, (fun _ _ h => nomatch h), (fun _ _ h => nomatch h), fun _ _ ns _ h => ⟨ns, h, rfl⟩, fun _ h => h⟩, start_len l, hold_of (pr I I vs b _ _ H rp (Same.refl _) (Same.refl _) fun k v e => by rw [Nat.zero_add]; exact start_at e l)⟩ (hm b P km) (fun c v w' H' pc g r => kq c v w'.I H' pc ⟨g.i, g.sub, fun b o h => g.keep b o rfl h, g.inew⟩ r) (fun c σ' w' H' pc a _ => kq () .non w'.I H' pc ⟨a.go.i, a.go.sub, fun b o h => a.go.keep b o rfl h, a.go.inew⟩ rfl) (fun _ _ _ _ z => z.elim) (fun _ _ _ _ z => z.elim) (fun _ _ _ _ _ z => z.elim)
/-- one that draws from a well, its first argument -/
theorem fnW {K : PySem.W.Frag} {mg : Str → Option Value} {N : List Str} {t : TS} {k : Nat} {S0 : Rps β} {R : Rp γ} {cs : β → List Cell} {m0 : β → D γ} {m : β → M γ Unit Unit} (pr : Prm S0 1 cs) (pl : ∀ J I vs b, S0.top J I vs b → vs.length + 1 ≤ N.length) {Γn : β → Unit → List Cell} {Γl : β → Unit → List Cell}
    (hb : ∀ b, SB ⟨K, mg, fun _ _ _ => False, N.length⟩ (⟨.w k, 0, ()⟩ :: cs b) t R (Γn b) (Γl b) (m b))
    (hm : ∀ b P, m0 b P (fun _ => False) → m b P (fun _ => False) (fun _ => False) (fun _ => False) (fun _ => False)) {vs : List V} {H : Hp} {Q : VK} {E : XK} {q : L2.St → Hp → Prop} (h : spW k S0 R m0 vs H Q E) : t { nx := q, rt := Q } (L2.start N vs) H := by
  obtain ⟨W, ns, vs', I, b, P, rfl, hW, hk, iW, s, rp, km, kq⟩ := h
  have l := pl _ _ _ _ rp
  have l' : (V.ref W :: vs').length ≤ N.length := by rw [List.length_cons]; exact l
  have hw0 : ∀ c i, (if c = W then some 0 else none) = some i → c = W := fun c i h => by
    by_cases z : c = W
    · exact z
    · rw [if_neg z] at h
      cases h
  refine hb b ⟨N.length, ⟨I, fun _ => none, fun c => if c = W then some 0 else none⟩, H⟩ (L2.start N (.ref W :: vs')) ⟨I, fun _ => none, fun c => if c = W then some 0 else none⟩ H _ P _ _ _ _ rfl ⟨⟨Same.refl _, fun _ _ => rfl, fun _ _ => rfl, fun _ _ => rfl, fun _ _ _ h => h, s, (fun _ _ h => nomatch h), fun c i h => ?_, fun _ _ ns _ h => ⟨ns, h, rfl⟩, fun _ h => h⟩, start_len l', hold_of (holdCc ⟨.ref W, start_at rfl l', W, ns, rfl, if_pos rfl, hW, hk⟩ (pr I I vs' b _ _ H rp (Same.refl _) (Same.refl _) fun k v e => by
      rw [Nat.add_comm]
      exact start_at (by simpa using e) l'))⟩ (hm b P km) (fun c v w' H' pc g r => kq c v w'.I H' pc ⟨g.i, g.sub, fun b o z h => g.keep b o (if_neg z) h, ?_, g.inew⟩ r) (fun _ _ _ _ z => z.elim) (fun _ _ _ _ z => z.elim) (fun _ _ _ _ z => z.elim) (fun _ _ _ _ _ z => z.elim)
  · have := hw0 c i h
    subst this
    exact ⟨iW, nn hW⟩
  · obtain ⟨n2, q1, q2⟩ := g.wells W 0 ns (if_pos rfl) hW
    exact ⟨n2, q1, q2.trans hk⟩
end
end Lx
namespace Lx
open PySem PySem.Spec PyProof.Rows L2 TL
open My (Asc)
section
variable {Z : Px} {j : Bool} {Γ : List Cell} {α β γ δ : Type}
/-! ### ints -/
theorem ro_I0 {g : Int → Int → V} {R : Rp γ} {f : Int → Int → γ} (h : ∀ I i j, R.rep I (g i j) (f i j)) : RO2 (rI0 g) rI rI R (fun i j => D.pure (f i j)) := fun J I H v u a b Q P X sj s ha hb hk q => ⟨a, b, ha, hb, q _ _ I H hk (Gw.refl (sj.trans s)) (h _ _ _)⟩
theorem ro_I {C : Int → Int → Prop} {g : Int → Int → V} {R : Rp γ} {f : Int → Int → γ} (h : ∀ I i j, R.rep I (g i j) (f i j)) : RO2 (L2.rI C g) rI rI R (fun i j => D.need (C i j) (D.pure (f i j))) := fun J I H v u a b Q P X sj s ha hb hk q => ⟨a, b, ha, hb, hk.1, q _ _ I H hk.2 (Gw.refl (sj.trans s)) (h _ _ _)⟩
theorem ro_add : RO2 (rI0 fun i j => .int (i + j)) rI rI rI (fun i j => D.pure (i + j)) := ro_I0 fun _ _ _ => rfl
theorem ro_sub : RO2 (rI0 fun i j => .int (i - j)) rI rI rI (fun i j => D.pure (i - j)) := ro_I0 fun _ _ _ => rfl
theorem ro_mul : RO2 (L2.rI CMul fun i j => .int (i * j)) rI rI rI (fun i j => D.need (CMul i j) (D.pure (i * j))) := ro_I fun _ _ _ => rfl
theorem ro_fdiv : RO2 (L2.rI CDiv fun i j => .int (i / j)) rI rI rI (fun i j => D.need (CDiv i j) (D.pure (i / j))) := ro_I fun _ _ _ => rfl
theorem ro_mod : RO2 (L2.rI (fun _ j => 0 < j) fun i j => .int (i % j)) rI rI rI (fun i j => D.need (0 < j) (D.pure (i % j))) := ro_I fun _ _ _ => rfl
theorem ro_pow : RO2 (L2.rI CPow fun i j => .int (i ^ j.toNat)) rI rI rI (fun i j => D.need (CPow i j) (D.pure (i ^ j.toNat))) := ro_I fun _ _ _ => rfl
theorem ro_lt : RO2 (rI0 fun i j => .bl (decide (i < j))) rI rI rB (fun i j => D.pure (decide (i < j))) := ro_I0 fun _ _ _ => rfl
theorem ro_le : RO2 (rI0 fun i j => .bl (decide (i ≤ j))) rI rI rB (fun i j => D.pure (decide (i ≤ j))) := ro_I0 fun _ _ _ => rfl
theorem ro_neg : RO1 (rU fun i => .int (-i)) rI rI (fun i => D.pure (-i)) := fun J I H v a Q P X sj s ha hk q => ⟨a, ha, q _ _ I H hk (Gw.refl (sj.trans s)) rfl⟩
/-- ==, != of flat things -/
structure Fl (A : Rp α) (f : α → V) : Prop where
  to : ∀ J I v a, A.top J I v a → v = f a
theorem ro_eq {A : Rp α} {B : Rp β} {f : α → V} {g : β → V} {c : α → β → Bool} (fa : Fl A f) (fb : Fl B g) (sc : ∀ a b, scal (f a) (g b) = true) (hc : ∀ a b, decide (f a = g b) = c a b) : RO2 rEq A B rB (fun a b => D.pure (c a b)) := fun J I H v u a b Q P X sj s ha hb hk q => by
  rw [fa.to _ _ _ _ ha, fb.to _ _ _ _ hb]
  exact ⟨sc _ _, q _ _ I H hk (Gw.refl (sj.trans s)) (congrArg V.bl (hc a b))⟩
theorem ro_ne {A : Rp α} {B : Rp β} {f : α → V} {g : β → V} {c : α → β → Bool} (fa : Fl A f) (fb : Fl B g) (sc : ∀ a b, scal (f a) (g b) = true) (hc : ∀ a b, decide (f a = g b) = c a b) : RO2 rNe A B rB (fun a b => D.pure (!c a b)) := fun J I H v u a b Q P X sj s ha hb hk q => by
  rw [fa.to _ _ _ _ ha, fb.to _ _ _ _ hb]
  exact ⟨sc _ _, q _ _ I H hk (Gw.refl (sj.trans s)) (by rw [hc a b]; rfl)⟩
theorem fl_I : Fl rI V.int := ⟨fun _ _ _ _ h => h⟩
theorem fl_B : Fl rB V.bl := ⟨fun _ _ _ _ h => h⟩
theorem fl_S : Fl rS V.str := ⟨fun _ _ _ _ h => h.1⟩
theorem fl_C : Fl rC (fun c => V.str ⟨#[c]⟩) := ⟨fun _ _ _ _ h => h.1⟩
theorem fl_OI : Fl (rO rI) My.oV := ⟨fun _ _ v a h => by
  cases a with
  | none => exact h
  | some n => exact h.2⟩
theorem dec_int (a b : Int) : decide (V.int a = V.int b) = decide (a = b) := by simp
theorem dec_str (a b : Str) : decide (V.str a = V.str b) = decide (a = b) := by simp
theorem dec_bl (a b : Bool) : decide (V.bl a = V.bl b) = decide (a = b) := by simp
theorem dec_oV (a b : Option Int) : decide (My.oV a = My.oV b) = decide (a = b) := by cases a <;> cases b <;> simp [My.oV]
theorem sc_oV (a b : Option Int) : scal (My.oV a) (My.oV b) = true := by cases a <;> cases b <;> rfl
theorem ro_eqI : RO2 rEq rI rI rB (fun a b => D.pure (decide (a = b))) := ro_eq fl_I fl_I (fun _ _ => rfl) dec_int
theorem ro_neI : RO2 rNe rI rI rB (fun a b => D.pure (!decide (a = b))) := ro_ne fl_I fl_I (fun _ _ => rfl) dec_int
theorem ro_eqS : RO2 rEq rS rS rB (fun a b => D.pure (decide (a = b))) := ro_eq fl_S fl_S (fun _ _ => rfl) dec_str
theorem ro_neS : RO2 rNe rS rS rB (fun a b => D.pure (!decide (a = b))) := ro_ne fl_S fl_S (fun _ _ => rfl) dec_str
theorem ro_eqB : RO2 rEq rB rB rB (fun a b => D.pure (decide (a = b))) := ro_eq fl_B fl_B (fun _ _ => rfl) dec_bl
theorem ro_neB : RO2 rNe rB rB rB (fun a b => D.pure (!decide (a = b))) := ro_ne fl_B fl_B (fun _ _ => rfl) dec_bl
theorem ro_eqO : RO2 rEq (rO rI) (rO rI) rB (fun a b => D.pure (decide (a = b))) := ro_eq fl_OI fl_OI sc_oV dec_oV
theorem ro_neO : RO2 rNe (rO rI) (rO rI) rB (fun a b => D.pure (!decide (a = b))) := ro_ne fl_OI fl_OI sc_oV dec_oV
theorem ro_isN {A : Rp α} : RO2 (fun x y H Q => y = .non ∧ Q (.bl (decide (x = .non))) H) (rO A) rN rB (fun a _ => D.pure a.isNone) := fun J I H v u a b Q P X sj s ha hb hk q => ⟨hb, q _ _ I H hk (Gw.refl (sj.trans s)) (by
  cases a with
  | none => rw [show v = .non from ha]; rfl
  | some n => exact congrArg V.bl (decide_eq_false ha.1))⟩
theorem ro_notN {A : Rp α} : RO2 (fun x y H Q => y = .non ∧ Q (.bl (!decide (x = .non))) H) (rO A) rN rB (fun a _ => D.pure a.isSome) := fun J I H v u a b Q P X sj s ha hb hk q => ⟨hb, q _ _ I H hk (Gw.refl (sj.trans s)) (by
  cases a with
  | none => rw [show v = .non from ha]; rfl
  | some n => rw [decide_eq_false ha.1]; rfl)⟩
/-! ### texts -/
theorem ro_addS : RO2 (fun x y H Q => ∃ i j, x = .str i ∧ y = .str j ∧ i.length + j.length ≤ sizeLine ∧ Q (.str (i ++ j)) H) rS rS rS (fun a b => D.need (a.length + b.length ≤ sizeLine) (D.pure (a ++ b))) := fun J I H v u a b Q P X sj s ha hb hk q => ⟨a, b, ha.1, hb.1, hk.1, q _ _ I H hk.2 (Gw.refl (sj.trans s)) ⟨rfl, My.asc_app ha.2.1 hb.2.1, by rw [My.len_app]; exact hk.1⟩⟩
theorem asc_one {z : Str} (h : Asc z) {c : Nat} (hc : c ∈ z.cps.toList) : Asc ⟨#[c]⟩ := fun d hd => by
  have : d = c := by simpa using hd
  rw [this]
  exact h c hc
theorem atI_mem {xs : List α} {i : Int} {c : α} (h : atI xs i = some c) : c ∈ xs := by
  unfold atI at h
  obtain ⟨k, _, h⟩ := Option.bind_eq_some_iff.mp h
  exact List.mem_of_getElem? h
def atD (xs : List α) (i : Int) : D α := fun P _ => ∃ a, atI xs i = some a ∧ P a
theorem ro_ixS : RO2 rIxS rS rI rS (fun z i => D.bind (atD z.cps.toList i) fun c => D.pure ⟨#[c]⟩) := fun J I H v u a b Q P X sj s ha hb hk q => by
  obtain ⟨c, e, p⟩ := hk
  exact ⟨a, b, c, ha.1, hb, ha.2.2, e, q _ _ I H p (Gw.refl (sj.trans s)) ⟨rfl, asc_one ha.2.1 (atI_mem e), by show 1 ≤ sizeLine; decide⟩⟩
theorem ro_inC : RO2 (fun x y H Q => ∃ (c : Nat) (z : Str), x = .str ⟨#[c]⟩ ∧ y = .str z ∧ Q (.bl (decide (c ∈ z.cps.toList))) H) rC rS rB (fun c z => D.pure (decide (c ∈ z.cps.toList))) := fun J I H v u a b Q P X sj s ha hb hk q => ⟨a, b, ha.1, hb.1, q _ _ I H hk (Gw.refl (sj.trans s)) rfl⟩
theorem ro_notInC : RO2 (fun x y H Q => ∃ (c : Nat) (z : Str), x = .str ⟨#[c]⟩ ∧ y = .str z ∧ Q (.bl (!decide (c ∈ z.cps.toList))) H) rC rS rB (fun c z => D.pure (!decide (c ∈ z.cps.toList))) := fun J I H v u a b Q P X sj s ha hb hk q => ⟨a, b, ha.1, hb.1, q _ _ I H hk (Gw.refl (sj.trans s)) rfl⟩
/-- text * int -/
def rMulS : R2 := fun x y H Q => ∃ (a : Str) (n : Int), x = .str a ∧ y = .int n ∧ MulOk a n ∧ Q (.str (Txt.mul a n)) H
theorem op_mulS {X : Cx} : OpR X (binaryOp .Mult) rMulS := by
  intro pins s σ H x y v u Q I rx ry h
  obtain ⟨a, n, rfl, rfl, hm, q⟩ := h
  obtain ⟨t, rfl⟩ := rx
  obtain ⟨t2, rfl⟩ := ry
  exact SB.mul hm fun t' k => ⟨.str _, H, I.tok _, ⟨_, rfl⟩, q⟩
theorem foldl_app (xs : List (Array Nat)) (acc : Array Nat) : (xs.foldl (· ++ ·) acc).toList = acc.toList ++ (xs.map Array.toList).flatten := by
  induction xs generalizing acc with
  | nil => simp
  | cons x r ih => rw [List.foldl_cons, ih]; simp
theorem mul_len (a : Str) (n : Int) : (Txt.mul a n).length ≤ a.length * n.toNat := by
  unfold Txt.mul
  split
  · exact Nat.zero_le _
  · rename_i h
    split
    · rename_i h2
      simp only [Bool.or_eq_true, beq_iff_eq] at h2
      rcases h2 with h2 | h2
      · subst h2; simp
      · rw [h2]; simp
    · show ((List.replicate n.toNat a.cps).foldl (· ++ ·) #[]).size ≤ _
      rw [← Array.length_toList, foldl_app, List.map_replicate]
      simp [Str.length, Nat.mul_comm]
theorem mul_asc {a : Str} (n : Int) (h : Asc a) : Asc (Txt.mul a n) := by
  unfold Txt.mul
  split
  · exact fun c hc => nomatch hc
  · split
    · exact h
    · intro c hc
      have hc' : c ∈ ((List.replicate n.toNat a.cps).foldl (· ++ ·) #[]).toList := hc
      rw [foldl_app, List.map_replicate] at hc'
      simp only [List.nil_append, List.mem_flatten, List.mem_replicate] at hc'
      obtain ⟨l, ⟨_, rfl⟩, hl⟩ := hc'
      exact h c hl
theorem mulOk_of {a : Str} {n : Int} (h : a.length * n.toNat ≤ 100000) (h0 : 0 ≤ n) (h1 : n ≤ 100000) : MulOk a n := by
  refine ⟨Bool.or_eq_false_iff.mpr ⟨decide_eq_false (by omega), decide_eq_false (by omega)⟩, fun g1 g2 g3 => ?_, fun g1 g2 => ?_⟩
  · have hn : 0 < n := by omega
    have : (a.length : Int) * n ≤ 100000 := by
      have : ((a.length * n.toNat : Nat) : Int) ≤ ((100000 : Nat) : Int) := Int.ofNat_le.mpr h
      rw [Int.natCast_mul, Int.toNat_of_nonneg h0] at this
      exact this
    have h3 : (2 ^ 63 - 1) / n < (a.length : Int) := g3
    have := Int.lt_mul_of_ediv_lt hn h3
    omega
  · exact decide_eq_false (Nat.not_lt.mpr (Nat.le_trans h (by decide)))
theorem ro_mulS : RO2 rMulS rS rI rS (fun a n => D.need (a.length * n.toNat ≤ 100000 ∧ 0 ≤ n ∧ n ≤ 100000) (D.pure (Txt.mul a n))) := fun J I H v u a b Q P X sj s ha hb hk q => ⟨a, b, ha.1, hb, mulOk_of hk.1.1 hk.1.2.1 hk.1.2.2, q _ _ I H hk.2 (Gw.refl (sj.trans s)) ⟨rfl, mul_asc _ ha.2.1, Nat.le_trans (mul_len _ _) (Nat.le_trans hk.1.1 (by decide))⟩⟩
/-! ### lists -/
theorem paired_at {α β : Type} {R : α → β → Prop} : ∀ {a : List α} {b : List β} {i : Nat} {y : β}, Paired R a b → b[i]? = some y → ∃ x, a[i]? = some x ∧ R x y
  | _, _, _, _, .nil, h => by simp at h
  | _, _, 0, _, .cons r t, h => by
    cases h
    exact ⟨_, rfl, r⟩
  | _, _, n + 1, _, .cons r t, h => by
    obtain ⟨y, h1, h2⟩ := paired_at (i := n) t h
    exact ⟨y, h1, h2⟩
theorem atI_of {vs : List V} {xs : List α} {R : V → α → Prop} {i : Int} {a : α} (pr : Paired R vs xs) (h : atI xs i = some a) : ∃ v, atI vs i = some v ∧ R v a := by
  unfold atI at h ⊢
  rw [prd_len pr]
  obtain ⟨k, h1, h⟩ := Option.bind_eq_some_iff.mp h
  obtain ⟨v, e, r⟩ := paired_at pr h
  exact ⟨v, by rw [h1]; exact e, r⟩
theorem ro_ixL {K : PySem.W.Frag} {A : Rp α} : RO2 (rIxL K) (rL A) rI A (fun xs i => atD xs i) := fun J I H v u a b Q P X sj s ha hb hk q => by
  obtain ⟨p, vs, rfl, e, l, pr⟩ := ha
  obtain ⟨c, ec, pc⟩ := hk
  obtain ⟨x, ex, rx⟩ := atI_of pr ec
  exact ⟨p, vs, b, x, rfl, hb, SqL.of (s _ _ e), ex, q _ _ I H pc (Gw.refl (sj.trans s)) rx⟩
theorem ro_cat {A : Rp α} : RO2 rCat (rL A) (rL A) (rL A) (fun xs ys => D.need (xs.length + ys.length ≤ sizeLine) (D.pure (xs ++ ys))) := fun J I H v u a b Q P X sj s ha hb hk q => by
  obtain ⟨p, vs, rfl, e, l, pr⟩ := ha
  obtain ⟨p2, vs2, rfl, e2, l2, pr2⟩ := hb
  refine ⟨p, p2, vs, vs2, rfl, rfl, s _ _ e, s _ _ e2, by rw [prd_len pr, prd_len pr2]; exact hk.1, fun n hn => ?_⟩
  have g := Gw.new1 (sj.trans s) hn (.lst (vs ++ vs2))
  exact q _ _ _ _ hk.2 g ⟨n, _, rfl, upd_same, by rw [List.length_append]; exact hk.1, prd_mono A g.i (paired_app pr pr2)⟩
theorem ro_lenL {K : PySem.W.Frag} {A : Rp α} : ROA (fun xs H Q => ∃ p ys, xs = [.ref p] ∧ (SqL K H p ys ∨ SqT K H p ys) ∧ Q (.int ys.length) H) (rsC (rL A) rs0) rI (fun b => D.pure (b.1.length : Int)) := fun J I H vs b Q P X sj s ⟨v, r, e, ⟨p, us, e1, e2, l, pr⟩, h2⟩ hk q => by
  cases (show r = [] from h2)
  subst e1
  exact ⟨p, us, e, .inl (SqL.of (s _ _ e2)), q _ _ I H hk (Gw.refl (sj.trans s)) (by rw [prd_len pr]; rfl)⟩
theorem ro_lenT {K : PySem.W.Frag} {A : Rp α} : ROA (fun xs H Q => ∃ p ys, xs = [.ref p] ∧ (SqL K H p ys ∨ SqT K H p ys) ∧ Q (.int ys.length) H) (rsC (rT K A) rs0) rI (fun b => D.pure (b.1.l.length : Int)) := fun J I H vs b Q P X sj s ⟨v, r, e, ⟨p, us, e1, e2, l, pr⟩, h2⟩ hk q => by
  cases (show r = [] from h2)
  subst e1
  exact ⟨p, us, e, .inr (Same.seqT s e2), q _ _ I H hk (Gw.refl (sj.trans s)) (by rw [prd_len pr]; rfl)⟩
theorem ro_lenS : ROA (fun xs H Q => ∃ z, xs = [.str z] ∧ z.length ≤ sizeLine ∧ Q (.int z.length) H) (rsC rS rs0) rI (fun b => D.pure (b.1.length : Int)) := fun J I H vs b Q P X sj s ⟨v, r, e, e1, h2⟩ hk q => by
  cases (show r = [] from h2)
  cases e1.1
  exact ⟨b.1, e, e1.2.2, q _ _ I H hk (Gw.refl (sj.trans s)) rfl⟩
theorem ro_strI : ROA (fun xs H Q => ∃ i, xs = [.int i] ∧ i.natAbs.log2 < 1920 ∧ Q (.str (toString i)) H) (rsC rI rs0) rS (fun b => D.need (b.1.natAbs.log2 < 1920 ∧ Asc (toString b.1) ∧ (toString b.1 : Str).length ≤ sizeLine) (D.pure (toString b.1))) := fun J I H vs b Q P X sj s ⟨v, r, e, e1, h2⟩ hk q => by
  cases (show r = [] from h2)
  cases (show v = .int b.1 from e1)
  exact ⟨b.1, e, hk.1.1, q _ _ I H hk.2 (Gw.refl (sj.trans s)) ⟨rfl, hk.1.2.1, hk.1.2.2⟩⟩
theorem ro_intS : ROA (fun xs H Q => ∃ a n, xs = [.str a] ∧ PySem.intText? a = some n ∧ a.length ≤ 640 ∧ Q (.int n) H) (rsC rS rs0) rI (fun b => fun P _ => ∃ n, PySem.intText? b.1 = some n ∧ b.1.length ≤ 640 ∧ P n) := fun J I H vs b Q P X sj s ⟨v, r, e, e1, h2⟩ hk q => by
  cases (show r = [] from h2)
  cases e1.1
  obtain ⟨n, h1, h3, h4⟩ := hk
  exact ⟨b.1, n, e, h1, h3, q _ _ I H h4 (Gw.refl (sj.trans s)) rfl⟩
theorem bools_of {I : Hp} : ∀ {vs : List V} {bs : List Bool}, Paired (rB.rep I) vs bs → vs = bs.map V.bl
  | _, _, .nil => rfl
  | _, _, .cons h t => by rw [List.map_cons, ← bools_of t, show _ = V.bl _ from h]
theorem ints_of {I : Hp} : ∀ {vs : List V} {bs : List Int}, Paired (rI.rep I) vs bs → vs = bs.map V.int
  | _, _, .nil => rfl
  | _, _, .cons h t => by rw [List.map_cons, ← ints_of t, show _ = V.int _ from h]
theorem strs_of {I : Hp} : ∀ {vs : List V} {bs : List Str}, Paired (rS.rep I) vs bs → vs = bs.map V.str
  | _, _, .nil => rfl
  | _, _, .cons h t => by rw [List.map_cons, ← strs_of t, h.1]
theorem strs_asc {I : Hp} : ∀ {vs : List V} {bs : List Str}, Paired (rS.rep I) vs bs → ∀ z ∈ bs, Asc z ∧ z.length ≤ sizeLine
  | _, _, .nil => fun z h => nomatch h
  | _, _, .cons h t => fun z hz => by
    rcases List.mem_cons.mp hz with rfl | hz
    · exact h.2
    · exact strs_asc t z hz
theorem of_strs {I : Hp} : ∀ {bs : List Str}, (∀ z ∈ bs, Asc z ∧ z.length ≤ sizeLine) → Paired (rS.rep I) (bs.map V.str) bs
  | [], _ => .nil
  | b :: r, h => .cons ⟨rfl, h b (List.mem_cons_self ..)⟩ (of_strs fun z hz => h z (List.mem_cons_of_mem _ hz))
theorem ro_all {K : PySem.W.Frag} : ROA (rAll K) (rsC (rL rB) rs0) rB (fun b => D.pure (b.1.all id)) := fun J I H vs b Q P X sj s ⟨v, r, e, ⟨p, us, e1, e2, l, pr⟩, h2⟩ hk q => by
  cases (show r = [] from h2)
  subst e1
  exact ⟨p, b.1, e, by rw [← bools_of pr]; exact SqL.of (s _ _ e2), q _ _ I H hk (Gw.refl (sj.trans s)) rfl⟩
theorem ro_any {K : PySem.W.Frag} : ROA (rAny K) (rsC (rL rB) rs0) rB (fun b => D.pure (b.1.any id)) := fun J I H vs b Q P X sj s ⟨v, r, e, ⟨p, us, e1, e2, l, pr⟩, h2⟩ hk q => by
  cases (show r = [] from h2)
  subst e1
  exact ⟨p, b.1, e, by rw [← bools_of pr]; exact SqL.of (s _ _ e2), q _ _ I H hk (Gw.refl (sj.trans s)) rfl⟩
theorem ro_sum {K : PySem.W.Frag} : ROA (rSum K) (rsC (rL rI) rs0) rI (fun b => D.pure b.1.sum) := fun J I H vs b Q P X sj s ⟨v, r, e, ⟨p, us, e1, e2, l, pr⟩, h2⟩ hk q => by
  cases (show r = [] from h2)
  subst e1
  exact ⟨p, b.1, e, by rw [← ints_of pr]; exact SqL.of (s _ _ e2), q _ _ I H hk (Gw.refl (sj.trans s)) rfl⟩
theorem ro_df {K : PySem.W.Frag} {f : List Int → Option Int} : ROK (My.rDf K f) (rsC (rL rI) rs0) (rsC rI rs0) rI (fun b d => D.pure ((f b.1).getD d.1)) := fun J I H vs us b d Q P X sj s ⟨v, r, e, ⟨p, ws, e1, e2, l, pr⟩, h2⟩ ⟨v2, r2, e3, e4, h4⟩ hk q => by
  cases (show r = [] from h2)
  cases (show r2 = [] from h4)
  subst e1
  cases (show v2 = .int d.1 from e4)
  exact ⟨p, b.1, .int d.1, e, e3, by rw [← ints_of pr]; exact SqL.of (s _ _ e2), q _ _ I H hk (Gw.refl (sj.trans s)) (by show My.orV (.int d.1) (f b.1) = .int ((f b.1).getD d.1); cases f b.1 <;> rfl)⟩
theorem ro_dfN {K : PySem.W.Frag} {f : List Int → Option Int} : ROK (My.rDf K f) (rsC (rL rI) rs0) (rsC rN rs0) (rO rI) (fun b d => D.pure (f b.1)) := fun J I H vs us b d Q P X sj s ⟨v, r, e, ⟨p, ws, e1, e2, l, pr⟩, h2⟩ ⟨v2, r2, e3, e4, h4⟩ hk q => by
  cases (show r = [] from h2)
  cases (show r2 = [] from h4)
  subst e1
  cases (show v2 = .non from e4)
  exact ⟨p, b.1, .non, e, e3, by rw [← ints_of pr]; exact SqL.of (s _ _ e2), q _ _ I H hk (Gw.refl (sj.trans s)) (by
    cases f b.1 with
    | none => exact rfl
    | some n => exact (show V.int n ≠ .non ∧ V.int n = .int n from And.intro (fun e => by cases e) rfl))⟩
/-! ### methods of texts -/
theorem join_asc {a : Str} {ys : List Str} (ha : Asc a) (hy : ∀ z ∈ ys, Asc z) : Asc (Txt.join a ys) := by
  have h : ∀ (S : List Nat) (ps : List (List Nat)), (∀ c ∈ S, c < 128) → (∀ p ∈ ps, ∀ c ∈ p, c < 128) → ∀ c ∈ joinL S ps, c < 128 := by
    intro S ps hS
    induction ps with
    | nil => intro _ c hc; cases hc
    | cons p r ih =>
      intro hp c hc
      cases r with
      | nil => exact hp p (List.mem_cons_self ..) c hc
      | cons q r =>
        have hc' : c ∈ p ++ (S ++ joinL S (q :: r)) := hc
        rcases List.mem_append.mp hc' with h | h
        · exact hp p (List.mem_cons_self ..) c h
        · rcases List.mem_append.mp h with h | h
          · exact hS c h
          · exact ih (fun y hy => hp y (List.mem_cons_of_mem _ hy)) c h
  intro c hc
  have e : tl (Txt.join a ys) = joinL (tl a) (ys.map tl) := by rw [join_eq, tl_join]
  have hc' : c ∈ tl (Txt.join a ys) := hc
  rw [e] at hc'
  refine h _ _ ha (fun p hp => ?_) c hc'
  obtain ⟨z, hz, rfl⟩ := List.mem_map.mp hp
  exact hy z hz
theorem ty_S {K : PySem.W.Frag} : TyR K "str" rS := fun J I H v a s h => by
  rw [h.1]
  rfl
theorem ty_L {K : PySem.W.Frag} {A : Rp α} : TyR K "list" (rL A) := fun J I H v a s ⟨p, vs, e, h, _⟩ => by
  rw [e]
  exact .inl ⟨rfl, _, SqL.of (s _ _ h)⟩
/-! ### parts of sequences -/
def SP (Z : Px) (Γ : List Cell) (t : TO) (m : D (Option Int)) : Prop :=
  ∀ (φ : Fr) (σ : L2.St) (w : Wd) (H : Hp) (Q : Option Int → Hp → Prop) (P : Option Int → Prop) (X : Ex → Prop), φ.n = Z.n → At φ Γ σ w H → m P X →
    (∀ a I' H', P a → Go w H I' H' → Q a H') →
    (∀ e c d I' H', X e → Go w H I' H' → e.rep Z.K Z.mg I' c d → Z.E c d H') → t σ H Q
theorem sp_none : SP Z Γ tNoPart (D.pure none) := fun φ σ w H Q P X hn hA hm k x => k none w.I H hm hA.rf
theorem sp_some {t : TE} {m : D Int} (h : SE Z true Γ t rI m) : SP Z Γ (tPart t) (D.bind m fun i => D.pure (some i)) := fun φ σ w H Q P X hn hA hm k x => h φ σ w H _ _ X hn hA hm (fun a v I' H' pa s r => ⟨a, r, k _ I' H' pa s⟩) x
def ROS (r : V → Option Int → Option Int → Hp → VK → Prop) (A : Rp α) (C : Rp γ) (k : α → Option Int → Option Int → D γ) : Prop := ∀ (J I H : Hp) (v : V) (a : α) (lo hi : Option Int) (Q : VK) (P : γ → Prop) (X : Ex → Prop), Same I J → Same J H → A.top J I v a → k a lo hi P X →
  (∀ c x I' H', P c → Gw I H I' H' → C.rep I' x c → Q x H') → r v lo hi H Q
theorem se_sl {r : V → Option Int → Option Int → Hp → VK → Prop} {A : Rp α} {C : Rp γ} {k : α → Option Int → Option Int → D γ} {te : TE} {tl th : TO} {ma : D α} {ml mh : D (Option Int)} (ro : ROS r A C k) (ha : SE Z true Γ te A ma) (hl : SP Z Γ tl ml) (hh : SP Z Γ th mh) : SE Z j Γ (L2.tSl r te tl th) C (D.bind ma fun a => D.bind ml fun lo => D.bind mh fun hi => k a lo hi) := fun φ σ w H Q P X hn hA hm kk x =>
  ha φ σ w H _ _ X hn hA hm (fun a v I1 H1 pa s1 ra => hl φ σ (w.to I1) H1 _ _ X hn (hA.step s1) pa (fun lo I2 H2 pb s2 => hh φ σ (w.to I2) H2 _ _ X hn (hA.step (s1.trans s2)) pb (fun hi I3 H3 pc s3 => by
    have g := (s1.trans s2).trans s3
    exact ro (Jn w H3) I3 H3 v a lo hi Q P X (i_jn (w := w.to I3) (hA.step g).go) (tp_sub (j := true) s3.sub) (A.mono (tp_go (w := w.to I1) (j := true) (s2.trans s3)) (s2.trans s3).i ra) pc fun c y I' H' pc g' rc =>
      kk c y I' H' pc (g.trans (.of_gw g')) (C.up (i_tp (w := w.to I') j (hA.step (g.trans (.of_gw g'))).go) rc)) (xg (s1.trans s2) x)) (xg s1 x)) x
theorem ro_slS : ROS rSlS rS rS (fun z lo hi => D.pure (cutS z lo hi)) := fun J I H v a lo hi Q P X sj s ha hk q => ⟨a, ha.1, ha.2.2, q _ _ I H hk (Gw.refl (sj.trans s)) ⟨rfl, My.asc_cut ha.2.1 _ _, Nat.le_trans (My.cutS_len _ _ _) ha.2.2⟩⟩
def cutL (xs : List α) (lo hi : Option Int) : List α := (xs.drop (HT.sIx xs.length 0 lo)).take (HT.sIx xs.length xs.length hi - HT.sIx xs.length 0 lo)
theorem prd_drop {R : V → α → Prop} : ∀ (n : Nat) {vs : List V} {xs : List α}, Paired R vs xs → Paired R (vs.drop n) (xs.drop n)
  | 0, _, _, h => h
  | n + 1, _, _, .nil => .nil
  | n + 1, _, _, .cons _ t => prd_drop n t
theorem prd_take {R : V → α → Prop} : ∀ (n : Nat) {vs : List V} {xs : List α}, Paired R vs xs → Paired R (vs.take n) (xs.take n)
  | 0, _, _, h => by simp only [List.take_zero]; exact .nil
  | n + 1, _, _, .nil => .nil
  | n + 1, _, _, .cons r t => .cons r (prd_take n t)
theorem cutL_len (xs : List α) (lo hi : Option Int) : (cutL xs lo hi).length ≤ xs.length := by
  unfold cutL
  rw [List.length_take, List.length_drop]
  omega
theorem cut_prd {R : V → α → Prop} {vs : List V} {xs : List α} (h : Paired R vs xs) (lo hi : Option Int) : Paired R (cutV vs lo hi) (cutL xs lo hi) := by
  unfold cutV cutL
  rw [prd_len h]
  exact prd_take _ (prd_drop _ h)
theorem ro_slL {K : PySem.W.Frag} {A : Rp α} : ROS (rSlL K) (rL A) (rL A) (fun xs lo hi => D.pure (cutL xs lo hi)) := fun J I H v a lo hi Q P X sj s ⟨p, vs, e, h, l, pr⟩ hk q => ⟨p, vs, e, SqL.of (s _ _ h), fun n hn => by
  have g := Gw.new1 (sj.trans s) hn (.lst (cutV vs lo hi))
  exact q _ _ _ _ hk g ⟨n, _, rfl, upd_same, Nat.le_trans (cutL_len _ _ _) l, prd_mono A g.i (cut_prd pr lo hi)⟩⟩
theorem ro_slScr {K : PySem.W.Frag} {A : Rp α} : ROS (rSlL K) (rScr K A) (rL A) (fun xs lo hi => D.pure (cutL xs.l lo hi)) := fun J I H v a lo hi Q P X sj s ⟨p, vs, e, h, l, pr⟩ hk q => ⟨p, vs, e, s.seq h, fun n hn => by
  have g := Gw.new1 (sj.trans s) hn (.lst (cutV vs lo hi))
  exact q _ _ _ _ hk g ⟨n, _, rfl, upd_same, Nat.le_trans (cutL_len _ _ _) l, prd_mono A g.i (cut_prd pr lo hi)⟩⟩
/-! ### walks -/
theorem si_str {te : TE} {m : D Str} (h : SE Z true Γ te rS m) : SI Z j Γ (iStr te) rC (D.bind m fun z => D.pure z.cps.toList) := fun φ σ w H Rr P X hn hA hm k x =>
  h φ σ w H _ _ X hn hA hm (fun z v I' H' pa s r => ⟨z, r.1, k _ _ I' H' pa s (by rw [My.len_tl]; exact r.2.2) ⟨fun H _ => by show z.cps.size ≤ _; rw [Array.length_toList]; exact Nat.le_refl _, fun i H hi _ => by rw [Array.length_toList] at hi; exact hi, fun i I H1 y H2 hi _ s0 s1 ⟨e1, c, e2, e3⟩ => by
    have e4 := My.at_l e2
    exact ⟨c, I, e4, by rw [e1]; exact Gw.refl s1, e3, r.2.1 c (List.mem_of_getElem? e4)⟩⟩⟩) x
theorem si_enum {K : PySem.W.Frag} (hK : Z.K = K) {ta : TA} {A : Rp α} {m : D (List α × Unit)} (h : SA Z j Γ ta (rsC (rL A) rs0) m) : SI Z j Γ (iEnum Z.K ta) (rTu K (rsC rI (rsC A rs0))) (D.bind m fun b => D.pure (b.1.zipIdx.map fun p => Tu.mk ((p.2 : Int), p.1, ()))) := fun φ σ w H Rr P X hn hA hm k x =>
  h φ σ w H _ _ X hn hA hm (fun b vs I' H' pa s ⟨v, r, e, ⟨p, us, e1, e2, l, pr⟩, h2⟩ => by
    cases (show r = [] from h2)
    subst e1
    have ln : (b.1.zipIdx.map fun p : α × Nat => Tu.mk ((p.2 : Int), p.1, ())).length = b.1.length := by rw [List.length_map, List.length_zipIdx]
    refine ⟨p, us, e, SqL.of (tp_sub s.sub _ _ e2), k _ _ I' H' pa s (by rw [ln]; exact l) ⟨fun H1 s1 => ⟨us, SqL.of (s1 _ _ e2), by rw [ln, prd_len pr]; exact Nat.le_refl _⟩, fun i H1 hi s1 => ?_, fun i I H1 y H2 hi s1 s0 s2 ⟨T, z, ez, hT, eH, hy⟩ => ?_⟩⟩
    · rw [ln] at hi
      obtain ⟨v, c, q1, _, _⟩ := prd_get pr hi
      exact ⟨us, v, SqL.of (s1 _ _ e2), q1⟩
    · rw [ln] at hi
      obtain ⟨v, c, q1, q2, q3⟩ := prd_get pr hi
      have := hy us (SqL.of (s1 _ _ e2))
      rw [q1] at this
      cases this
      have g := Gw.new1 s2 hT (.tup [.int (i : Nat), z])
      refine ⟨Tu.mk ((i : Int), c, ()), _, ?_, by rw [eH]; exact g, ?_⟩
      · rw [List.getElem?_map, List.getElem?_zipIdx, q2]
        simp
      · subst ez
        exact ⟨T, _, rfl, SqT.of upd_same, .int (i : Nat), [z], rfl, rfl, z, [], rfl, A.mn (s0.trans g.i) q3, rfl⟩) x
end
end Lx
namespace Lx
open PySem PySem.Spec PyProof.Rows L2 TL
section
variable {X : Cx} (K : PySem.W.Frag)
theorem ixLK (h : X.K = K) : IxR X (rIxL K) := h ▸ ix_list
theorem ixTK (h : X.K = K) : IxR X (rIxT K) := h ▸ ix_tup
theorem slLK (h : X.K = K) : SlR X (rSlL K) := h ▸ sl_list
theorem slTK (h : X.K = K) : SlR X (rSlT K) := h ▸ sl_tup
theorem inK (h : X.K = K) : OpR X (compareOp .In) (rIn K false) := h ▸ op_in_seq
theorem notInK (h : X.K = K) : OpR X (compareOp .NotIn) (rIn K true) := h ▸ op_notIn_seq
theorem inDK (h : X.K = K) (hu : X.A.units + 65 < cLine) : OpR X (compareOp .In) (rInD K) := h ▸ op_inD hu
theorem notInDK (h : X.K = K) (hu : X.A.units + 65 < cLine) : OpR X (compareOp .NotIn) (rNotInD K) := h ▸ op_notInD hu
theorem eqDK (h : X.K = K) (hu : X.A.units + 64 < cLine) : OpR X (compareOp .Eq) (rEqD K) := h ▸ op_eqD hu
theorem neDK (h : X.K = K) (hu : X.A.units + 64 < cLine) : OpR X (compareOp .NotEq) (rNeD K) := h ▸ op_neD hu
theorem lenK (h : X.K = K) : CallR X (.builtin "len") (fun xs H Q => ∃ p ys, xs = [.ref p] ∧ (SqL K H p ys ∨ SqT K H p ys) ∧ Q (.int ys.length) H) := h ▸ call_len_seq
theorem allK (h : X.K = K) (hc : X.calm = true) : CallR X (.builtin "all") (rAll K) := h ▸ cr_all hc
theorem anyK (h : X.K = K) (hc : X.calm = true) : CallR X (.builtin "any") (rAny K) := h ▸ cr_any hc
theorem sumK (h : X.K = K) (hc : X.calm = true) : CallR X (.builtin "sum") (rSum K) := h ▸ cr_sum hc
theorem isiK (h : X.K = K) : CallR X (.builtin "isinstance") (rIsi K) := h ▸ call_isi
theorem isiTK (h : X.K = K) : CallR X (.builtin "isinstance") (rIsiT K) := h ▸ call_isiT
theorem listK (h : X.K = K) : CallR X (.type "list") (fun xs H Q => ∃ p ys, xs = [.ref p] ∧ (SqL K H p ys ∨ SqT K H p ys) ∧ ∀ l, H l = none → Q (.ref l) (upd H l (.lst ys))) := h ▸ call_list_of
theorem tupleK (h : X.K = K) : CallR X (.type "tuple") (fun xs H Q => ∃ p ys, xs = [.ref p] ∧ ((SqL K H p ys ∧ ∀ l, H l = none → Q (.ref l) (upd H l (.tup ys))) ∨ (SqT K H p ys ∧ Q (.ref p) H))) := h ▸ call_tuple_of
theorem minDfK (h : X.K = K) (hc : X.calm = true) (hu : X.A.units + 64 < cLine) : CallRK X (.builtin "min") ["default"] (My.rDf K My.minI) := h ▸ My.cr_minDf hc hu
theorem maxDfK (h : X.K = K) (hc : X.calm = true) (hu : X.A.units + 64 < cLine) : CallRK X (.builtin "max") ["default"] (My.rDf K My.maxI) := h ▸ My.cr_maxDf hc hu
theorem pe_fldK {e : Expr} {ta : TE} {f : Str} {pos : Pos} (h : X.K = K) (he : PE X e ta) (hb : attributeBase e f X.env (eval e X.env) = eval e X.env) : PE X (.Attribute e f pos) (tFld K ta f) := h ▸ pe_fld he hb
theorem pi_listK {tg e : Expr} {t : TE} (h : X.K = K) (he : PE X e t) : PI X tg e (iList K t) := h ▸ pi_list he
theorem pi_tupK {tg e : Expr} {t : TE} (h : X.K = K) (he : PE X e t) : PI X tg e (iTup K t) := h ▸ pi_tup he
theorem bmK {T : String} {e : Expr} {r : V → List V → Hp → VK → Prop} {to : TE} {t : TA} (h : X.K = K) (p : PE X e (tBM X.K T r to t)) : PE X e (tBM K T r to t) := h ▸ p
/-- what a join asks, by the written part -/
def rJoin (K : PySem.W.Frag) : V → List V → Hp → VK → Prop := fun x xs H Q => ∃ a p, ∃ ys : List Str, x = .str a ∧ xs = [.ref p] ∧ (SqL K H p (ys.map V.str) ∨ SqT K H p (ys.map V.str)) ∧ (ys.map (·.length)).sum + ys.length * a.length ≤ 16777216 ∧ Q (.str (Txt.join a ys)) H
theorem joinK {e : Expr} {to te : TE} (h : X.K = K) (p : PE X e (tM1 (rJoin X.K) to te)) : PE X e (tM1 (rJoin K) to te) := h ▸ p
end
open My (Asc)
theorem ro_join {K : PySem.W.Frag} : ROM (rJoin K) rS (rsC (rL rS) rs0) rS
    (fun a b => D.need ((b.1.map (·.length)).sum + b.1.length * a.length ≤ 16000000) (D.pure (Txt.join a b.1))) := fun J I H v us a b Q P X sj s ha ⟨v2, r, e, ⟨p, ws, e1, e2, l, pr⟩, h2⟩ hk q => by
  cases (show r = [] from h2)
  subst e1
  have hy := strs_asc pr
  exact ⟨a, p, b.1, ha.1, e, .inl (by rw [← strs_of pr]; exact SqL.of (s _ _ e2)), Nat.le_trans hk.1 (by decide), q _ _ I H hk.2 (Gw.refl (sj.trans s)) ⟨rfl, join_asc ha.2.1 fun z hz => (hy z hz).1, Nat.le_trans (My.join_len a b.1) (Nat.le_trans hk.1 (by decide))⟩⟩
end Lx
namespace Lx
open PySem PySem.Spec PyProof.Rows L2 TL
open My (Asc)
section
variable {Z : Px} {j : Bool} {Γ : List Cell} {α β γ δ : Type} {K : PySem.W.Frag}
/-! ### statements that join -/
section
variable {S L S' : Type} {R : Rp γ} {Γn : S → List Cell} {Γl : L → List Cell}
def RowOk (Γb : List Cell) : List Cell → Prop
  | [] => True
  | c :: r => (c = ⟨.x, c.i, ()⟩ ∨ look Γb c.i = some c) ∧ RowOk Γb r
theorem row_mem {Γb : List Cell} : ∀ {r : List Cell}, RowOk Γb r → ∀ c ∈ r, c = ⟨.x, c.i, ()⟩ ∨ look Γb c.i = some c
  | _ :: _, ⟨h, t⟩, c, hc => by
    rcases List.mem_cons.mp hc with rfl | hc
    · exact h
    · exact row_mem t c hc
theorem look_skip {Γ : List Cell} {i : Nat} : ∀ {B : List Cell}, i ∉ B.map (·.i) → look (B ++ Γ) i = look Γ i
  | [], _ => rfl
  | c :: r, h => by
    rw [List.map_cons, List.mem_cons, not_or] at h
    show (match Nat.beq c.i i with | true => some c | false => look (r ++ Γ) i) = _
    have e : Nat.beq c.i i = false := by
      cases q : Nat.beq c.i i with
      | false => rfl
      | true => exact absurd (Nat.eq_of_beq_eq_true q).symm h.1
    rw [e]
    exact look_skip h.2
def Cov (B r : List Cell) : Bool := B.all fun c => r.any fun d => Nat.beq d.i c.i
theorem row_hold {Γb Γ r : List Cell} {k : Nat} (hd : Γb.drop k = Γ) (cv : Cov (Γb.take k) r = true) (ok : RowOk Γb r) {σ : L2.St} {w : Wd} {H : Hp} (h : Hold σ w H Γb) : Hold σ w H (r ++ Γ) := fun i c e => by
  rcases look_app e with q | ⟨q1, q2⟩
  · rcases row_mem ok c q with z | z
    · rw [z]
      exact trivial
    · exact h _ c z
  · refine h i c ?_
    rw [← List.take_append_drop k Γb, hd, look_skip ?_]
    · exact q2
    · intro hi
      obtain ⟨d, hd1, hd2⟩ := List.mem_map.mp hi
      have := List.all_eq_true.mp cv d hd1
      obtain ⟨e, he1, he2⟩ := List.any_eq_true.mp this
      exact q1 (List.mem_map.mpr ⟨e, he1, (Nat.eq_of_beq_eq_true he2).trans hd2⟩)
theorem sb_nextK {Γb : List Cell} {ρ : S → List Cell} {s : S} (k : Nat) (hd : Γb.drop k = Γ) (cv : Cov (Γb.take k) (ρ s) = true) (ok : RowOk Γb (ρ s)) : SB Z Γb tNext R (fun s => ρ s ++ Γ) Γl (fun _ nx _ _ _ => nx s) := fun φ σ w H Dn rt nx bk ct X hn hA hm k1 k2 k3 k4 k5 => k2 s σ w H hm ⟨hA.go, hA.len, row_hold hd cv ok hA.hold⟩ (Same.refl _)
theorem sb_ctK {Γb : List Cell} {ρ : L → List Cell} {s : L} (k : Nat) (hd : Γb.drop k = Γ) (cv : Cov (Γb.take k) (ρ s) = true) (ok : RowOk Γb (ρ s)) : SB Z Γb tCont R Γn (fun s => ρ s ++ Γ) (fun _ _ _ ct _ => ct s) := fun φ σ w H Dn rt nx bk ct X hn hA hm k1 k2 k3 k4 k5 => k4 s σ w H hm ⟨hA.go, hA.len, row_hold hd cv ok hA.hold⟩ (Same.refl _)
theorem sb_brkK {Γb : List Cell} {ρ : L → List Cell} {s : L} (k : Nat) (hd : Γb.drop k = Γ) (cv : Cov (Γb.take k) (ρ s) = true) (ok : RowOk Γb (ρ s)) : SB Z Γb tBreak R Γn (fun s => ρ s ++ Γ) (fun _ _ bk _ _ => bk s) := fun φ σ w H Dn rt nx bk ct X hn hA hm k1 k2 k3 k4 k5 => k3 s σ w H hm ⟨hA.go, hA.len, row_hold hd cv ok hA.hold⟩ (Same.refl _)
theorem sb_join {c : TT} {t u r : TS} {mc : D Bool} {m1 m2 : M γ S' L} {m : S' → M γ S L} (ρ : S' → List Cell) (hc : ST Z Γ c mc) (ht : SB Z Γ t R (fun s => ρ s ++ Γ) Γl m1) (hu : SB Z Γ u R (fun s => ρ s ++ Γ) Γl m2) (hr : ∀ s, SB Z (ρ s ++ Γ) r R Γn Γl (m s)) :
    SB Z Γ (tSeq (tIfS c t u) r) R Γn Γl (fun rt nx bk ct X => mc (fun b => if b = true then m1 rt (fun s => m s rt nx bk ct X) bk ct X else m2 rt (fun s => m s rt nx bk ct X) bk ct X) X) := sb_seq (sb_if hc ht hu) hr
theorem sb_loop {wi : TI} {g : TG} {tb r : TS} {A : Rp α} {is : List Nat} {cs : α → List Cell} {mi : D (List α)} {body : α → S' → M γ S' S'} {m : S' → M γ S L} (ρ : S' → List Cell) {s0 : S'} (hi : SI Z false Γ wi A mi) (hg : SG Z.K g A is cs) (hin : is.all (fun i => decide (i < Z.n)) = true)
    (ok : RowOk Γ (ρ s0)) (hb : ∀ x s, SB Z (cs x ++ (ρ s ++ Γ)) tb R (fun s => ρ s ++ Γ) (fun s => ρ s ++ Γ) (body x s)) (hr : ∀ s, SB Z (ρ s ++ Γ) r R Γn Γl (m s)) :
    SB Z Γ (tSeq (tFor wi g tb) r) R Γn Γl (fun rt nx bk ct X => mi (fun xs => forD body rt (fun s => m s rt nx bk ct X) X xs s0) X) := fun φ σ w H Dn rt nx bk ct X hn hA hm k1 k2 k3 k4 k5 =>
  hi φ σ w H _ _ X hn hA hm (fun xs T I1 H1 px s1 hl wk => by
    have hA1 := hA.step s1
    refine ⟨fun i n σ' H' => ∃ w' s, i + n = xs.length ∧ At φ (ρ s ++ Γ) σ' w' H' ∧ Same I1 w'.I ∧ forD body rt (fun s => m s rt nx bk ct X) X (xs.drop i) s, ⟨xs.length, w.to I1, s0, by omega, ⟨hA1.go, hA1.len, row_hold (k := 0) rfl rfl ok hA1.hold⟩, Same.refl _, px⟩, ?_⟩
    rintro i n σ' H' ⟨w', s, em, hA', s', pf⟩
    by_cases he : i = xs.length
    · left
      subst he
      rw [List.drop_length] at pf
      exact ⟨wk.stop H' (s'.trans hA'.go.sub), hr s φ σ' w' H' Dn rt nx bk ct X hn hA' pf k1 (kk2 (s1.i.trans s') k2) (kk2 (s1.i.trans s') k3) (kk2 (s1.i.trans s') k4) k5⟩
    · right
      have hi' : i < xs.length := by omega
      refine ⟨wk.go i H' hi' (s'.trans hA'.go.sub), fun σ2 H2 => ∃ w2 s2, At φ (ρ s2 ++ Γ) σ2 w2 H2 ∧ Same I1 w2.I ∧ forD body rt (fun s => m s rt nx bk ct X) X (xs.drop (i + 1)) s2, fun σ2 H2 ⟨w2, s2, hA2, z2, pf2⟩ => ⟨n - 1, by omega, w2, s2, by omega, hA2, z2, pf2⟩, fun x H2 hy => ?_⟩
      obtain ⟨a, I', ea, gw, ra⟩ := wk.yld i w'.I H' x H2 hi' (s'.trans hA'.go.sub) s' hA'.go.sub hy
      have hA2 := hA'.step (.of_gw gw)
      have ed : xs.drop i = a :: xs.drop (i + 1) := by
        rw [List.drop_eq_getElem_cons hi']
        rw [List.getElem?_eq_getElem hi'] at ea
        cases ea
        rfl
      rw [ed] at pf
      refine hg.2 x a σ' (w'.to I') H2 Z.n _ (hA2.len.trans hn) (fun i z => of_decide_eq_true (List.all_eq_true.mp hin i z)) hA2.go.sub ra fun σ2 hl2 he2 hh2 => ?_
      have sB : Same I1 I' := s'.trans gw.i
      exact hb a s φ σ2 (w'.to I') H2 _ rt _ _ _ X hn ⟨hA2.go, hl2.trans hn.symm, hold_tgt he2 (hg.1 a) hh2 hA2.hold⟩ pf k1
        (fun s2 σ3 w3 H3 p3 hA3 z3 => ⟨w3, s2, hA3, sB.trans z3, p3⟩) (fun s2 σ3 w3 H3 p3 hA3 z3 => hr s2 φ σ3 w3 H3 Dn rt nx bk ct X hn hA3 p3 k1 (kk2 (s1.i.trans (sB.trans z3)) k2) (kk2 (s1.i.trans (sB.trans z3)) k3) (kk2 (s1.i.trans (sB.trans z3)) k4) k5) (fun s2 σ3 w3 H3 p3 hA3 z3 => ⟨w3, s2, hA3, sB.trans z3, p3⟩) k5)
    (kx hA.go k5)
end
/-! ### written lists: their length is plain -/
def rsLn (R : Rp α) (n : Nat) : Rps (List α) := ⟨fun _ I vs xs => Paired (R.rep I) vs xs ∧ vs.length = n, fun _ t h => ⟨prd_mono R t h.1, h.2⟩⟩
theorem ln_nil {R : Rp α} : SA Z false Γ tNil (rsLn R 0) (D.pure []) := fun φ σ w H Q P X hn hA hm k _ => k [] [] w.I H hm hA.rf ⟨.nil, rfl⟩
theorem ln_cons {n : Nat} {t : TE} {u : TA} {R : Rp α} {m : D α} {m2 : D (List α)} (h : SE Z false Γ t R m) (h' : SA Z false Γ u (rsLn R n) m2) : SA Z false Γ (tCons t u) (rsLn R (n + 1)) (D.bind m fun a => D.bind m2 fun b => D.pure (a :: b)) := fun φ σ w H Q P X hn hA hm k x =>
  h φ σ w H _ _ X hn hA hm (fun a v I1 H1 pa s1 ra => h' φ σ (w.to I1) H1 _ _ X hn (hA.step s1) pa (fun b vs I2 H2 pb s2 rb => k _ _ I2 H2 pb (s1.trans s2) ⟨.cons (R.mn s2.i ra) rb.1, congrArg Nat.succ rb.2⟩) (xg s1 x)) x
theorem ln_le {n : Nat} {R : Rp α} {J I : Hp} {vs : List V} {xs : List α} (l : n ≤ 1000) (h : (rsLn R n).top J I vs xs) : vs.length ≤ sizeLine ∧ xs.length ≤ sizeLine := by
  have e := h.2
  have e2 := prd_len h.1
  have : 1000 ≤ sizeLine := by decide
  omega
theorem se_lstn {n : Nat} {t : TA} {R : Rp α} {m : D (List α)} (h : SA Z false Γ t (rsLn R n) m) (l : n ≤ 1000 := by decide) : SE Z j Γ (tLst t) (rL R) m := fun φ σ w H Q P X hn hA hm k x =>
  h φ σ w H _ _ X hn hA hm (fun xs vs I1 H1 pa s1 ra => ⟨(ln_le l ra).1, fun p hp => by
    have g := s1.trans (go_new1 (w := w.to I1) s1.sub hp (.lst vs))
    exact k xs _ _ _ pa g ((rL R).up (i_tp (w := w.to _) j (hA.step g).go) ⟨p, vs, rfl, upd_same, (ln_le l ra).2, prd_mono R (My.same_upd (s1.sub.free hp)) ra.1⟩)⟩) x
section
variable {S L S' : Type} {R : Rp γ} {Γn : S → List Cell} {Γl : L → List Cell}
theorem sb_newLn {n i : Nat} {t : TA} {u : TS} {A : Rp α} {me : D (List α)} {m : List α → M γ S L} (hi : i < Z.n) (he : SA Z false Γ t (rsLn A n) me) (hu : ∀ ys, SB Z (⟨.l A, i, ys⟩ :: Γ) u R Γn Γl (m ys)) (l : n ≤ 1000 := by decide) :
    SB Z Γ (tSeq (tAsg (tLst t) (gName i)) u) R Γn Γl (fun rt nx bk ct X => me (fun ys => m ys rt nx bk ct X) X) := fun φ σ w H Dn rt nx bk ct X hn hA hm k1 k2 k3 k4 k5 =>
  he φ σ w H _ _ X hn hA hm (fun ys us I' H' pa s r => ⟨(ln_le l r).1, fun p hp => hu ys φ (σ.set i (some (.ref p))) _ _ Dn rt nx bk ct X hn (at_newL (hA.step s) (by rw [hn]; exact hi) hp (ln_le l r).2 r.1) pa k1 (kk2 s.i k2) (kk2 s.i k3) (kk2 s.i k4) k5⟩)
    (kx hA.go k5)
end
theorem SE.get {t : TE} {R : Rp α} {m : D (Option α)} (h : SE Z j Γ t (rO R) m) : SE Z j Γ t R (D.bind m fun o => fun P _ => ∃ a, o = some a ∧ P a) := SE.cast (fun J I v o P X r hp => by
  obtain ⟨a, rfl, pa⟩ := hp
  exact ⟨a, pa, r.2⟩) h
/-! ### other names of the same things -/
theorem co_some_int : ∀ (J I : Hp) v a, rI.top J I v a → (rO rI).top J I v (some a) := fun J I v a h => And.intro (fun e => by rw [show v = .int a from h] at e; cases e) h
theorem co_some_str : ∀ (J I : Hp) v a, rS.top J I v a → (rO rS).top J I v (some a) := fun J I v a h => And.intro (fun e => by rw [h.1] at e; cases e) h
theorem co_some_tu {S : Rps β} : ∀ (J I : Hp) v a, (rTu K S).top J I v a → (rO (rTu K S)).top J I v (some a) := fun J I v a h => And.intro (fun e => by obtain ⟨p, vs, q, _⟩ := h; rw [q] at e; cases e) h
theorem co_some_list {R : Rp α} : ∀ (J I : Hp) v a, (rL R).top J I v a → (rO (rL R)).top J I v (some a) := fun J I v a h => And.intro (fun e => by obtain ⟨p, vs, q, _⟩ := h; rw [q] at e; cases e) h
theorem co_sign : ∀ (J I : Hp) v (c : Nat), rC.top J I v c → rS.top J I v ⟨#[c]⟩ := fun J I v c h => ⟨h.1, fun d hd => by
  have : d = c := by simpa using hd
  rw [this]
  exact h.2, by show 1 ≤ sizeLine; decide⟩
theorem co_lq {R : Rp α} : ∀ (J I : Hp) v a, (rL R).top J I v a → (rQ K R).top J I v ⟨a⟩ := fun J I v a ⟨p, vs, e, h, l, pr⟩ => ⟨p, vs, e, .inl h, l, pr⟩
theorem co_tq {R : Rp α} : ∀ (J I : Hp) v (a : Tv α), (rT K R).top J I v a → (rQ K R).top J I v ⟨a.l⟩ := fun J I v a ⟨p, vs, e, h, l, pr⟩ => ⟨p, vs, e, .inr h, l, pr⟩
/-! ### ints, once more -/
theorem ro_gt : RO2 (rI0 fun i j => .bl (decide (j < i))) rI rI rB (fun i j => D.pure (decide (j < i))) := ro_I0 fun _ _ _ => rfl
theorem ro_ge : RO2 (rI0 fun i j => .bl (decide (j ≤ i))) rI rI rB (fun i j => D.pure (decide (j ≤ i))) := ro_I0 fun _ _ _ => rfl
theorem ro_intB : ROA (fun xs H Q => (∃ i, xs = [.int i] ∧ Q (.int i) H) ∨ ∃ k, xs = [.bl k] ∧ Q (.int (if k then 1 else 0)) H) (rsC rB rs0) rI (fun b => D.pure (if b.1 then 1 else 0)) := fun J I H vs b Q P X sj s ⟨v, r, e, e1, h2⟩ hk q => by
  cases (show r = [] from h2)
  cases (show v = .bl b.1 from e1)
  exact .inr ⟨b.1, e, q _ _ I H hk (Gw.refl (sj.trans s)) rfl⟩
/-! ### places of tuples -/
theorem se_tix {n : Nat} {r : R2} {A : Rp α} {B : Rp β} {f : α → β} {ta : TE} {ma : D α} (ro : RO2 r A rI B (fun a i => D.need (i = (n : Int)) (D.pure (f a)))) (ha : SE Z true Γ ta A ma) : SE Z j Γ (tOp r ta (tC (.int (n : Int)))) B (D.bind ma fun a => D.pure (f a)) := fun φ σ w H Q P X hn hA hm k x =>
  se_op (j := j) ro ha (se_int (i := (n : Int))) φ σ w H Q P X hn hA (by
    show ma (fun a => (n : Int) = (n : Int) ∧ P (f a)) X
    have e : (fun a => (n : Int) = (n : Int) ∧ P (f a)) = fun a => P (f a) := by
      funext a
      exact propext ⟨fun h => h.2, fun h => ⟨rfl, h⟩⟩
    rw [e]
    exact hm) k x
theorem ro_t {S : Rps β} {A : Rp α} {f : β → α} {n : Nat} (h : ∀ J I vs b, S.top J I vs b → ∃ v, vs[n]? = some v ∧ A.top J I v (f b)) : RO2 (rIxT K) (rTu K S) rI A (fun t i => D.need (i = (n : Int)) (D.pure (f t.r))) := fun J I H v u a b Q P X sj s ha hb hk q => by
  obtain ⟨p, vs, rfl, e, r⟩ := ha
  obtain ⟨x, ex, rx⟩ := h _ _ _ _ r
  cases hk.1
  exact ⟨p, vs, (n : Int), x, rfl, hb, Same.seqT s e, atI_nat ex, q _ _ I H hk.2 (Gw.refl (sj.trans s)) rx⟩
section
variable {A0 : Rp α} {A1 : Rp β} {A2 : Rp γ} {A3 : Rp δ} {ε ζ : Type} {A4 : Rp ε} {S : Rps ζ}
theorem se_tu0 {ta : TE} {ma : D (Tu (α × ζ))} (ha : SE Z true Γ ta (rTu Z.K (rsC A0 S)) ma) : SE Z j Γ (tOp (rIxT Z.K) ta (tC (.int 0))) A0 (D.bind ma fun t => D.pure t.r.1) := se_tix (n := 0) (ro_t (S := rsC A0 S) (n := 0) fun J I vs b ⟨v, r, e, h, _⟩ => ⟨v, by rw [e]; rfl, h⟩) ha
theorem se_tu1 {ta : TE} {ma : D (Tu (α × β × ζ))} (ha : SE Z true Γ ta (rTu Z.K (rsC A0 (rsC A1 S))) ma) : SE Z j Γ (tOp (rIxT Z.K) ta (tC (.int 1))) A1 (D.bind ma fun t => D.pure t.r.2.1) := se_tix (n := 1) (ro_t (S := rsC A0 (rsC A1 S)) (n := 1) fun J I vs b ⟨v, r, e, _, v1, r1, e1, h, _⟩ => ⟨v1, by rw [e, e1]; rfl, h⟩) ha
theorem se_tu2 {ta : TE} {ma : D (Tu (α × β × γ × ζ))} (ha : SE Z true Γ ta (rTu Z.K (rsC A0 (rsC A1 (rsC A2 S)))) ma) : SE Z j Γ (tOp (rIxT Z.K) ta (tC (.int 2))) A2 (D.bind ma fun t => D.pure t.r.2.2.1) := se_tix (n := 2) (ro_t (S := rsC A0 (rsC A1 (rsC A2 S))) (n := 2) fun J I vs b ⟨v, r, e, _, v1, r1, e1, _, v2, r2, e2, h, _⟩ => ⟨v2, by rw [e, e1, e2]; rfl, h⟩) ha
end
/-! ### written tuples of texts -/
theorem se_tc {a : Addr} {zs : List Str} (q : ∀ H : Hp, SqT Z.K H a (zs.map V.str)) (h : (∀ z ∈ zs, Asc z ∧ z.length ≤ 1000) ∧ zs.length ≤ 1000) : SE Z j Γ (tC (.ref a)) (rT Z.K rS) (D.pure ⟨zs⟩) := se_c fun J I => ⟨a, zs.map V.str, rfl, q J, Nat.le_trans h.2 (by decide), of_strs fun z hz => ⟨(h.1 z hz).1, Nat.le_trans (h.1 z hz).2 (by decide)⟩⟩
/-! ### texts among texts -/
theorem ro_inSL0 {neg : Bool} : RO2 (rIn K neg) rS (rL rS) rB (fun a xs => D.pure (if neg then !decide (a ∈ xs) else decide (a ∈ xs))) := fun J I H v u a b Q P X sj s ha hb hk q => by
  obtain ⟨p, vs, rfl, e, l, pr⟩ := hb
  rw [strs_of pr] at e
  rw [ha.1]
  refine ⟨p, _, rfl, .inl (SqL.of (s _ _ e)), rfl, My.flat_strs _, ?_⟩
  rw [My.inV_strs]
  exact q _ _ I H hk (Gw.refl (sj.trans s)) (by cases neg <;> rfl)
theorem ro_inST0 {neg : Bool} : RO2 (rIn K neg) rS (rT K rS) rB (fun a xs => D.pure (if neg then !decide (a ∈ xs.l) else decide (a ∈ xs.l))) := fun J I H v u a b Q P X sj s ha hb hk q => by
  obtain ⟨p, vs, rfl, e, l, pr⟩ := hb
  rw [strs_of pr] at e
  rw [ha.1]
  refine ⟨p, _, rfl, .inr (Same.seqT s e), rfl, My.flat_strs _, ?_⟩
  rw [My.inV_strs]
  exact q _ _ I H hk (Gw.refl (sj.trans s)) (by cases neg <;> rfl)
theorem ro_notInSL : RO2 (rIn K true) rS (rL rS) rB (fun a xs => D.pure (!decide (a ∈ xs))) := ro_inSL0 (neg := true)
theorem ro_inSL : RO2 (rIn K false) rS (rL rS) rB (fun a xs => D.pure (decide (a ∈ xs))) := ro_inSL0 (neg := false)
theorem ro_notInST : RO2 (rIn K true) rS (rT K rS) rB (fun a xs => D.pure (!decide (a ∈ xs.l))) := ro_inST0 (neg := true)
theorem ro_inST : RO2 (rIn K false) rS (rT K rS) rB (fun a xs => D.pure (decide (a ∈ xs.l))) := ro_inST0 (neg := false)
/-! ### methods of texts -/
theorem ro_strip : ROM (fun x xs H Q => ∃ a b, x = .str a ∧ xs = [.str b] ∧ a.length ≤ sizeLine ∧ Q (.str (Txt.stripChars a b)) H) rS (rsC rS rs0) rS (fun a b => D.need (Asc (Txt.stripChars a b.1) ∧ (Txt.stripChars a b.1).length ≤ a.length) (D.pure (Txt.stripChars a b.1))) := fun J I H v us a b Q P X sj s ha ⟨v2, r, e, h1, h2⟩ hk q => by
  cases (show r = [] from h2)
  cases h1.1
  exact ⟨a, b.1, ha.1, e, ha.2.2, q _ _ I H hk.2 (Gw.refl (sj.trans s)) ⟨rfl, hk.1.1, Nat.le_trans hk.1.2 ha.2.2⟩⟩
theorem ro_find : ROM (fun x xs H Q => ∃ a b, x = .str a ∧ xs = [.str b] ∧ Q (.int (Txt.find a b)) H) rS (rsC rS rs0) rI (fun a b => D.pure (Txt.find a b.1)) := fun J I H v us a b Q P X sj s ha ⟨v2, r, e, h1, h2⟩ hk q => by
  cases (show r = [] from h2)
  cases h1.1
  exact ⟨a, b.1, ha.1, e, q _ _ I H hk (Gw.refl (sj.trans s)) rfl⟩
theorem ro_upper : ROM (fun x xs H Q => ∃ a, x = .str a ∧ xs = [] ∧ a.length ≤ 5592405 ∧ Q (.str (Txt.upper a)) H) rS rs0 rS (fun a _ => D.need (a.length ≤ 5592405 ∧ Asc (Txt.upper a) ∧ (Txt.upper a).length ≤ sizeLine) (D.pure (Txt.upper a))) := fun J I H v us a b Q P X sj s ha h2 hk q => by
  cases (show us = [] from h2)
  exact ⟨a, ha.1, rfl, hk.1.1, q _ _ I H hk.2 (Gw.refl (sj.trans s)) ⟨rfl, hk.1.2⟩⟩
theorem ro_split : ROM (fun x xs H Q => ∃ a b, x = .str a ∧ xs = [.str b] ∧ (b.length == 0) = false ∧ a.length + 2 ≤ sizeLine ∧ rNewStrs (Txt.split a b) H Q) rS (rsC rS rs0) (rL rS) (fun a b => D.need ((b.1.length == 0) = false ∧ a.length + 2 ≤ sizeLine ∧ (Txt.split a b.1).length ≤ sizeLine ∧ ∀ z ∈ Txt.split a b.1, Asc z ∧ z.length ≤ sizeLine) (D.pure (Txt.split a b.1))) := fun J I H v us a b Q P X sj s ha ⟨v2, r, e, h1, h2⟩ hk q => by
  cases (show r = [] from h2)
  cases h1.1
  refine ⟨a, b.1, ha.1, e, hk.1.1, hk.1.2.1, fun p hp => ?_⟩
  have g := Gw.new1 (sj.trans s) hp (.lst ((Txt.split a b.1).map V.str))
  exact q _ _ _ _ hk.2 g ⟨p, _, rfl, upd_same, hk.1.2.2.1, of_strs hk.1.2.2.2⟩
theorem ro_partition {K : PySem.W.Frag} : ROM (fun x xs H Q => ∃ a b, x = .str a ∧ xs = [.str b] ∧ (b.length == 0) = false ∧ a.length ≤ sizeLine ∧
      ∀ p, H p = none → Q (.ref p) (upd H p (.tup [.str (Txt.partition a b).1, .str (Txt.partition a b).2.1, .str (Txt.partition a b).2.2]))) rS (rsC rS rs0) (rTu K (rsC rS (rsC rS (rsC rS rs0))))
    (fun a b => D.need ((b.1.length == 0) = false ∧ (Asc (Txt.partition a b.1).1 ∧ (Txt.partition a b.1).1.length ≤ sizeLine) ∧ (Asc (Txt.partition a b.1).2.1 ∧ (Txt.partition a b.1).2.1.length ≤ sizeLine) ∧ Asc (Txt.partition a b.1).2.2 ∧ (Txt.partition a b.1).2.2.length ≤ sizeLine) (D.pure ⟨(Txt.partition a b.1).1, (Txt.partition a b.1).2.1, (Txt.partition a b.1).2.2, ()⟩)) := fun J I H v us a b Q P X sj s ha ⟨v2, r, e, h1, h2⟩ hk q => by
  cases (show r = [] from h2)
  cases h1.1
  refine ⟨a, b.1, ha.1, e, hk.1.1, ha.2.2, fun p hp => ?_⟩
  have g := Gw.new1 (sj.trans s) hp (.tup [.str (Txt.partition a b.1).1, .str (Txt.partition a b.1).2.1, .str (Txt.partition a b.1).2.2])
  exact q _ _ _ _ hk.2 g ⟨p, _, rfl, SqT.of upd_same, _, _, rfl, ⟨rfl, hk.1.2.1⟩, _, _, rfl, ⟨rfl, hk.1.2.2.1⟩, _, _, rfl, ⟨rfl, hk.1.2.2.2⟩, rfl⟩
/-! ### list(..), tuple(..) -/
theorem ro_listL {A : Rp α} : ROA (fun xs H Q => ∃ p ys, xs = [.ref p] ∧ (SqL K H p ys ∨ SqT K H p ys) ∧ ∀ l, H l = none → Q (.ref l) (upd H l (.lst ys))) (rsC (rL A) rs0) (rL A) (fun b => D.pure b.1) := fun J I H vs b Q P X sj s ⟨v, r, e, ⟨p, us, e1, e2, l, pr⟩, h2⟩ hk q => by
  cases (show r = [] from h2)
  subst e1
  refine ⟨p, us, e, .inl (SqL.of (s _ _ e2)), fun n hn => ?_⟩
  have g := Gw.new1 (sj.trans s) hn (.lst us)
  exact q _ _ _ _ hk g ⟨n, _, rfl, upd_same, l, prd_mono A g.i pr⟩
theorem ro_listT {A : Rp α} : ROA (fun xs H Q => ∃ p ys, xs = [.ref p] ∧ (SqL K H p ys ∨ SqT K H p ys) ∧ ∀ l, H l = none → Q (.ref l) (upd H l (.lst ys))) (rsC (rT K A) rs0) (rL A) (fun b => D.pure b.1.l) := fun J I H vs b Q P X sj s ⟨v, r, e, ⟨p, us, e1, e2, l, pr⟩, h2⟩ hk q => by
  cases (show r = [] from h2)
  subst e1
  refine ⟨p, us, e, .inr (Same.seqT s e2), fun n hn => ?_⟩
  have g := Gw.new1 (sj.trans s) hn (.lst us)
  exact q _ _ _ _ hk g ⟨n, _, rfl, upd_same, l, prd_mono A g.i pr⟩
theorem ro_tupL {A : Rp α} : ROA (fun xs H Q => ∃ p ys, xs = [.ref p] ∧ ((SqL K H p ys ∧ ∀ l, H l = none → Q (.ref l) (upd H l (.tup ys))) ∨ (SqT K H p ys ∧ Q (.ref p) H))) (rsC (rL A) rs0) (rT K A) (fun b => D.pure ⟨b.1⟩) := fun J I H vs b Q P X sj s ⟨v, r, e, ⟨p, us, e1, e2, l, pr⟩, h2⟩ hk q => by
  cases (show r = [] from h2)
  subst e1
  refine ⟨p, us, e, .inl ⟨SqL.of (s _ _ e2), fun n hn => ?_⟩⟩
  have g := Gw.new1 (sj.trans s) hn (.tup us)
  exact q _ _ _ _ hk g ⟨n, _, rfl, SqT.of upd_same, l, prd_mono A g.i pr⟩
/-! ### data of any kind -/
mutual
theorem Dp.mn {H H' : Hp} (s : Same H H') : ∀ {v : V} {d : PyData}, Dp K H v d → Dp K H' v d
  | _, _, .non => .non
  | _, _, .bl b => .bl b
  | _, _, .int i => .int i
  | _, _, .str x => .str x
  | _, _, .lst h t => .lst (s.seq h) (DpAll.mn s t)
  | _, _, .tup h t => .tup (Same.seqT s h) (DpAll.mn s t)
theorem DpAll.mn {H H' : Hp} (s : Same H H') : ∀ {v : List V} {d : List PyData}, DpAll K H v d → DpAll K H' v d
  | _, _, .nil => .nil
  | _, _, .cons h t => .cons (Dp.mn s h) (DpAll.mn s t)
end
def rD (K : PySem.W.Frag) : Rp PyData := ⟨fun J _ v d => Dp K J v d ∧ d.canLay0 = true, fun s _ h => ⟨Dp.mn s h.1, h.2⟩⟩
class Dat (K : PySem.W.Frag) {α : Type} (R : Rp α) where
  enc : α → PyData
  dep : Nat
  dp : ∀ {J I : Hp} {v : V} {a : α}, Same I J → R.top J I v a → Dp K J v (enc a)
  lay : ∀ {J I : Hp} {v : V} {a : α}, R.top J I v a → (enc a).canLay0 = true
  dle : ∀ a, (enc a).depth ≤ dep
  inj : ∀ a b, PyData.eqv (enc a) (enc b) = true → a = b
  nz : ∀ a, PyData.eqv (enc a) .none = false ∧ PyData.eqv .none (enc a) = false
instance : Dat K rI := ⟨fun i => .int i, 0, fun {J I v a} _ h => by rw [show v = .int a from h]; exact .int a, fun _ => rfl, fun _ => Nat.le_refl _, fun a b h => by simpa [PyData.eqv] using h, fun a => ⟨rfl, rfl⟩⟩
instance : Dat K rB := ⟨fun i => .bool i, 0, fun {J I v a} _ h => by rw [show v = .bl a from h]; exact .bl a, fun _ => rfl, fun _ => Nat.le_refl _, fun a b h => by simpa [PyData.eqv] using h, fun a => ⟨rfl, rfl⟩⟩
instance : Dat K rS := ⟨fun i => .str i, 0, fun {J I v a} _ h => by rw [h.1]; exact .str a, fun h => My.ok_asc h.2.1, fun _ => Nat.le_refl _, fun a b h => by simpa [PyData.eqv] using h, fun a => ⟨rfl, rfl⟩⟩
/-- none or a thing -/
class DatO (K : PySem.W.Frag) {α : Type} (R : Rp α) where
  enc : α → PyData
  dep : Nat
  dp : ∀ {J I : Hp} {v : V} {a : α}, Same I J → R.top J I v a → Dp K J v (enc a)
  lay : ∀ {J I : Hp} {v : V} {a : α}, R.top J I v a → (enc a).canLay0 = true
  dle : ∀ a, (enc a).depth ≤ dep
  inj : ∀ a b, PyData.eqv (enc a) (enc b) = true → a = b
instance [d : Dat K (α := α) R] : DatO K R := ⟨d.enc, d.dep, d.dp, d.lay, d.dle, d.inj⟩
def encO (f : α → PyData) : Option α → PyData
  | none => .none
  | some a => f a
instance {R : Rp α} [d : Dat K R] : DatO K (rO R) := ⟨encO d.enc, d.dep, fun {J I v a} s h => by
    cases a with
    | none => rw [show v = .non from h]; exact .non
    | some a => exact d.dp s h.2, fun {J I v a} h => by
    cases a with
    | none => rfl
    | some a => exact d.lay h.2, fun a => by
    cases a with
    | none => exact Nat.zero_le _
    | some a => exact d.dle a, fun a b h => by
    cases a with
    | none =>
      cases b with
      | none => rfl
      | some b => rw [show PyData.eqv (encO d.enc none) (encO d.enc (some b)) = false from (d.nz b).2] at h; cases h
    | some a =>
      cases b with
      | none => rw [show PyData.eqv (encO d.enc (some a)) (encO d.enc none) = false from (d.nz a).1] at h; cases h
      | some b => rw [d.inj a b h]⟩
theorem dpAll_of {R : Rp α} (d : DatO K R) {I : Hp} : ∀ {vs : List V} {xs : List α}, Paired (R.rep I) vs xs → DpAll K I vs (xs.map d.enc)
  | _, _, .nil => .nil
  | _, _, .cons h t => .cons (d.dp (Same.refl _) h) (dpAll_of d t)
theorem layAll_of {R : Rp α} (d : DatO K R) {I : Hp} : ∀ {vs : List V} {xs : List α}, Paired (R.rep I) vs xs → PyData.canLayAll0 (xs.map d.enc) = true
  | _, _, .nil => rfl
  | _, _, .cons h t => by
    show (_ && _) = true
    rw [d.lay h, layAll_of d t]
    rfl
theorem depAll_of {n : Nat} (f : α → PyData) (h : ∀ a, (f a).depth ≤ n) : ∀ xs : List α, PyData.depthAll (xs.map f) ≤ n
  | [] => Nat.zero_le _
  | a :: r => Nat.max_le.mpr ⟨h a, depAll_of f h r⟩
theorem injAll_of (f : α → PyData) (h : ∀ a b, PyData.eqv (f a) (f b) = true → a = b) : ∀ xs ys : List α, PyData.eqvAll (xs.map f) (ys.map f) = true → xs = ys
  | [], [], _ => rfl
  | [], _ :: _, e => nomatch e
  | _ :: _, [], e => nomatch e
  | a :: r, b :: t, e => by
    have e' : (PyData.eqv (f a) (f b) && PyData.eqvAll (r.map f) (t.map f)) = true := e
    rw [Bool.and_eq_true] at e'
    rw [h a b e'.1, injAll_of f h r t e'.2]
instance {R : Rp α} [d : DatO K R] : Dat K (rL R) := ⟨fun xs => .list (xs.map d.enc), d.dep + 1, fun {J I v a} s ⟨p, vs, e, h, l, pr⟩ => by rw [e]; exact .lst (SqL.of h) (DpAll.mn s (dpAll_of d pr)), fun ⟨p, vs, e, h, l, pr⟩ => layAll_of d pr, fun a => Nat.succ_le_succ (depAll_of d.enc d.dle a), fun a b h => injAll_of d.enc d.inj a b h, fun a => ⟨rfl, rfl⟩⟩
instance {R : Rp α} [d : DatO K R] : Dat K (rT K R) := ⟨fun xs => .tuple (xs.l.map d.enc), d.dep + 1, fun {J I v a} s ⟨p, vs, e, h, l, pr⟩ => by rw [e]; exact .tup h (DpAll.mn s (dpAll_of d pr)), fun ⟨p, vs, e, h, l, pr⟩ => layAll_of d pr, fun a => Nat.succ_le_succ (depAll_of d.enc d.dle a.l), fun a b h => by rw [show a = ⟨a.l⟩ from rfl, injAll_of d.enc d.inj a.l b.l h], fun a => ⟨rfl, rfl⟩⟩
/-- rows of unlike things -/
class Dats (K : PySem.W.Frag) {β : Type} (S : Rps β) where
  enc : β → List PyData
  dep : Nat
  dp : ∀ {I : Hp} {v : List V} {a : β}, S.rep I v a → DpAll K I v (enc a)
  lay : ∀ {I : Hp} {v : List V} {a : β}, S.rep I v a → PyData.canLayAll0 (enc a) = true
  dle : ∀ a, PyData.depthAll (enc a) ≤ dep
  inj : ∀ a b, PyData.eqvAll (enc a) (enc b) = true → a = b
instance : Dats K rs0 := ⟨fun _ => [], 0, fun {I v a} h => by rw [show v = [] from h]; exact .nil, fun _ => rfl, fun _ => Nat.zero_le _, fun _ _ _ => rfl⟩
instance {R : Rp α} {S : Rps β} [d : DatO K R] [t : Dats K S] : Dats K (rsC R S) := ⟨fun p => d.enc p.1 :: t.enc p.2, max d.dep t.dep, fun ⟨v, r, e, h, k⟩ => by rw [e]; exact .cons (d.dp (Same.refl _) h) (t.dp k), fun {I vs a} ⟨v, r, e, h, k⟩ => by
    show (_ && _) = true
    rw [d.lay h, t.lay k]
    rfl, fun p => Nat.max_le.mpr ⟨Nat.le_trans (d.dle _) (Nat.le_max_left ..), Nat.le_trans (t.dle _) (Nat.le_max_right ..)⟩, fun a b h => by
    have e' : (PyData.eqv (d.enc a.1) (d.enc b.1) && PyData.eqvAll (t.enc a.2) (t.enc b.2)) = true := h
    rw [Bool.and_eq_true] at e'
    exact Prod.ext (d.inj _ _ e'.1) (t.inj _ _ e'.2)⟩
instance {S : Rps β} [t : Dats K S] : Dat K (rTu K S) := ⟨fun x => .tuple (t.enc x.r), t.dep + 1, fun {J I v a} s ⟨p, vs, e, h, k⟩ => by rw [e]; exact .tup h (DpAll.mn s (t.dp k)), fun ⟨p, vs, e, h, k⟩ => t.lay k, fun a => Nat.succ_le_succ (t.dle a.r), fun a b h => by rw [show a = ⟨a.r⟩ from rfl, t.inj a.r b.r h], fun a => ⟨rfl, rfl⟩⟩
theorem shaped_of {d : PyData} (h : d.canLay0 = true) (l : d.depth ≤ 60) : SeqAt.shaped d = true := by
  unfold SeqAt.shaped
  rw [h, Bool.true_and]
  exact decide_eq_true (by omega)
theorem eqv_dec {R : Rp α} [DecidableEq α] (d : DatO K R) {J I J' I' : Hp} {v u : V} {a b : α} (ha : R.top J I v a) (hb : R.top J' I' u b) : PyData.eqv (d.enc a) (d.enc b) = decide (a = b) := by
  by_cases h : a = b
  · subst h
    rw [decide_eq_true rfl]
    exact SeqAt.eqv_refl _ (d.lay ha)
  · rw [decide_eq_false h]
    cases e : PyData.eqv (d.enc a) (d.enc b) with
    | false => rfl
    | true => exact absurd (d.inj a b e) h
theorem ro_eqD {R : Rp α} [DecidableEq α] [d : DatO K R] (l : d.dep ≤ 60 := by exact Nat.le_of_ble_eq_true rfl) : RO2 (rEqD K) R R rB (fun a b => D.pure (decide (a = b))) := fun J I H v u a b Q P X sj s ha hb hk q =>
  ⟨d.enc a, d.enc b, Dp.mn s (d.dp sj ha), Dp.mn s (d.dp sj hb), shaped_of (d.lay ha) (Nat.le_trans (d.dle a) l), shaped_of (d.lay hb) (Nat.le_trans (d.dle b) l), q _ _ I H hk (Gw.refl (sj.trans s)) (congrArg V.bl (eqv_dec d ha hb))⟩
theorem ro_neD {R : Rp α} [DecidableEq α] [d : DatO K R] (l : d.dep ≤ 60 := by exact Nat.le_of_ble_eq_true rfl) : RO2 (rNeD K) R R rB (fun a b => D.pure (!decide (a = b))) := fun J I H v u a b Q P X sj s ha hb hk q =>
  ⟨d.enc a, d.enc b, Dp.mn s (d.dp sj ha), Dp.mn s (d.dp sj hb), shaped_of (d.lay ha) (Nat.le_trans (d.dle a) l), shaped_of (d.lay hb) (Nat.le_trans (d.dle b) l), q _ _ I H hk (Gw.refl (sj.trans s)) (by rw [eqv_dec d ha hb]; rfl)⟩
theorem ro_eqAny : RO2 (rEqD K) (rD K) (rD K) rB (fun a b => D.need (a.depth ≤ 60 ∧ b.depth ≤ 60) (D.pure (PyData.eqv a b))) := fun J I H v u a b Q P X sj s ha hb hk q =>
  ⟨a, b, Dp.mn s ha.1, Dp.mn s hb.1, shaped_of ha.2 hk.1.1, shaped_of hb.2 hk.1.2, q _ _ I H hk.2 (Gw.refl (sj.trans s)) rfl⟩
theorem ro_neAny : RO2 (rNeD K) (rD K) (rD K) rB (fun a b => D.need (a.depth ≤ 60 ∧ b.depth ≤ 60) (D.pure (!PyData.eqv a b))) := fun J I H v u a b Q P X sj s ha hb hk q =>
  ⟨a, b, Dp.mn s ha.1, Dp.mn s hb.1, shaped_of ha.2 hk.1.1, shaped_of hb.2 hk.1.2, q _ _ I H hk.2 (Gw.refl (sj.trans s)) rfl⟩
instance : DatO K rN := ⟨fun _ => .none, 0, fun {J I v a} _ h => by rw [show v = .non from h]; exact .non, fun _ => rfl, fun _ => Nat.le_refl _, fun _ _ _ => rfl⟩
/-- lists, tuples of data of any kind, as data -/
class ToD (K : PySem.W.Frag) {α : Type} (R : Rp α) where
  enc : α → PyData
  dp : ∀ {J I : Hp} {v : V} {a : α}, Same I J → R.top J I v a → Dp K J v (enc a)
  lay : ∀ {J I : Hp} {v : V} {a : α}, R.top J I v a → (enc a).canLay0 = true
instance (priority := low) {R : Rp α} [d : DatO K R] : ToD K R := ⟨d.enc, d.dp, d.lay⟩
instance : ToD K (rD K) := ⟨fun d => d, fun _ h => h.1, fun h => h.2⟩
theorem dpAll_D {I : Hp} : ∀ {vs : List V} {xs : List PyData}, Paired ((rD K).rep I) vs xs → DpAll K I vs xs ∧ PyData.canLayAll0 xs = true
  | _, _, .nil => ⟨.nil, rfl⟩
  | _, _, .cons h t => ⟨.cons h.1 (dpAll_D t).1, by show (_ && _) = true; rw [h.2, (dpAll_D t).2]; rfl⟩
instance : ToD K (rL (rD K)) := ⟨fun xs => .list xs, fun {J I v a} s ⟨p, vs, e, h, l, pr⟩ => by rw [e]; exact .lst (SqL.of h) (DpAll.mn s (dpAll_D pr).1), fun ⟨p, vs, e, h, l, pr⟩ => (dpAll_D pr).2⟩
/-- rows of unlike things, as data -/
class ToDs (K : PySem.W.Frag) {β : Type} (S : Rps β) where
  enc : β → List PyData
  dp : ∀ {I : Hp} {v : List V} {a : β}, S.rep I v a → DpAll K I v (enc a)
  lay : ∀ {I : Hp} {v : List V} {a : β}, S.rep I v a → PyData.canLayAll0 (enc a) = true
instance : ToDs K rs0 := ⟨fun _ => [], fun {I v a} h => by rw [show v = [] from h]; exact .nil, fun _ => rfl⟩
instance {R : Rp α} {S : Rps β} [d : ToD K R] [t : ToDs K S] : ToDs K (rsC R S) := ⟨fun p => d.enc p.1 :: t.enc p.2, fun ⟨v, r, e, h, k⟩ => by rw [e]; exact .cons (d.dp (Same.refl _) h) (t.dp k), fun {I vs a} ⟨v, r, e, h, k⟩ => by
    show (_ && _) = true
    rw [d.lay h, t.lay k]
    rfl⟩
instance (priority := high) {S : Rps β} [t : ToDs K S] : ToD K (rTu K S) := ⟨fun x => .tuple (t.enc x.r), fun {J I v a} s ⟨p, vs, e, h, k⟩ => by rw [e]; exact .tup h (DpAll.mn s (t.dp k)), fun ⟨p, vs, e, h, k⟩ => t.lay k⟩
theorem SE.toD {t : TE} {R : Rp α} {m : D α} [d : ToD Z.K R] (h : SE Z j Γ t R m) : SE Z j Γ t (rD Z.K) (D.bind m fun a => D.pure (d.enc a)) := fun φ σ w H Q P X hn hA hm k x =>
  h φ σ w H Q _ X hn hA hm (fun a v I' H' pb s r => k _ v I' H' pb s ⟨d.dp (i_tp (w := w.to I') j (hA.step s).go) r, d.lay r⟩) x
def isBl (d : PyData) (b : Bool) : Bool := match d with
  | .bool c => c == b
  | _ => false
theorem isBl_of {H : Hp} {v : V} {d : PyData} (b : Bool) (h : Dp K H v d) : decide (v = .bl b) = isBl d b := by
  cases h <;> simp [isBl]
  rename_i c
  cases c <;> cases b <;> rfl
theorem ro_isA : RO2 My.rIsA (rD K) rB rB (fun d b => D.pure (isBl d b)) := fun J I H v u a b Q P X sj s ha hb hk q => ⟨b, hb, q _ _ I H hk (Gw.refl (sj.trans s)) (congrArg V.bl (isBl_of b ha.1))⟩
theorem ro_notA : RO2 My.rNotA (rD K) rB rB (fun d b => D.pure (!isBl d b)) := fun J I H v u a b Q P X sj s ha hb hk q => ⟨b, hb, q _ _ I H hk (Gw.refl (sj.trans s)) (by rw [isBl_of b ha.1]; rfl)⟩
/-! ### x in xs, by data -/
theorem any_mem {R : Rp α} [DecidableEq α] (d : DatO K R) {J I J' : Hp} {v : V} {a : α} (ha : R.top J I v a) : ∀ {vs : List V} {xs : List α}, Paired (R.rep J') vs xs → ((xs.map d.enc).any fun z => PyData.eqv z (d.enc a)) = decide (a ∈ xs)
  | _, _, .nil => by simp
  | _, x :: xs, .cons h t => by
    rw [List.map_cons, List.any_cons, any_mem d ha t, eqv_dec d h ha]
    by_cases e : x = a
    · rw [decide_eq_true e, Bool.true_or]
      exact (decide_eq_true (by rw [e]; exact List.mem_cons_self ..)).symm
    · rw [decide_eq_false e, Bool.false_or]
      exact decide_eq_decide.mpr ⟨fun h => List.mem_cons_of_mem _ h, fun h => (List.mem_cons.mp h).resolve_left fun z => e z.symm⟩
theorem ro_inD {R : Rp α} [DecidableEq α] [d : DatO K R] (l : d.dep ≤ 59 := by exact Nat.le_of_ble_eq_true rfl) : RO2 (rInD K) R (rL R) rB (fun a xs => D.pure (decide (a ∈ xs))) := fun J I H v u a b Q P X sj s ha hb hk q => by
  obtain ⟨p, vs, rfl, e, le, pr⟩ := hb
  refine ⟨d.enc a, b.map d.enc, Dp.mn s (d.dp sj ha), .lst (SqL.of (s _ _ e)) (DpAll.mn (sj.trans s) (dpAll_of d pr)), shaped_of (d.lay ha) (Nat.le_trans (d.dle a) (by omega)), shaped_of (layAll_of d pr) (Nat.succ_le_succ (Nat.le_trans (depAll_of d.enc d.dle b) l)), ?_⟩
  rw [any_mem d ha pr]
  exact q _ _ I H hk (Gw.refl (sj.trans s)) rfl
theorem ro_notInD {R : Rp α} [DecidableEq α] [d : DatO K R] (l : d.dep ≤ 59 := by exact Nat.le_of_ble_eq_true rfl) : RO2 (rNotInD K) R (rL R) rB (fun a xs => D.pure (!decide (a ∈ xs))) := fun J I H v u a b Q P X sj s ha hb hk q => by
  obtain ⟨p, vs, rfl, e, le, pr⟩ := hb
  refine ⟨d.enc a, b.map d.enc, Dp.mn s (d.dp sj ha), .lst (SqL.of (s _ _ e)) (DpAll.mn (sj.trans s) (dpAll_of d pr)), shaped_of (d.lay ha) (Nat.le_trans (d.dle a) (by omega)), shaped_of (layAll_of d pr) (Nat.succ_le_succ (Nat.le_trans (depAll_of d.enc d.dle b) l)), ?_⟩
  rw [any_mem d ha pr]
  exact q _ _ I H hk (Gw.refl (sj.trans s)) rfl
/-! ### isinstance(x, T) of data -/
def tyN : PyData → String
  | .none => "NoneType"
  | .bool _ => "bool"
  | .int _ => "int"
  | .str _ => "str"
  | .list _ => "list"
  | .tuple _ => "tuple"
  | .dict _ => "dict"
theorem tyx_dp {H : Hp} {v : V} {d : PyData} (h : Dp K H v d) : TyX K H v (.type (tyN d)) := by
  cases h with
  | non => exact .base .non
  | bl b => exact .base (.bl b)
  | int i => exact .base (.int i)
  | str x => exact .base (.str x)
  | lst h t =>
    rcases h with (h | ⟨o, h⟩) | ⟨o, its, n, h1, h2, _⟩
    · exact .base (.lst h)
    · exact .base (.frz h)
    · exact .kList h1 h2
  | tup h t =>
    rcases h with (h | ⟨o, h⟩) | ⟨o, its, n, h1, h2, _⟩
    · exact .base (.tup h)
    · exact .fTuple h
    · exact .kTuple h1 h2
theorem se_isiD {n : String} {ta : TE} {ma : D PyData} (ha : SE Z true Γ ta (rD Z.K) ma) : SE Z j Γ (tCB (rIsi Z.K) (tCons ta (tCons (tC (.ty n)) tNil))) rB (D.bind ma fun d => fun P _ => ∃ b, kitB (tyN d) n = some b ∧ P b) := fun φ σ w H Q P X hn hA hm kk x =>
  ha φ σ w H _ _ X hn hA hm (fun d v I1 H1 pd s1 rd => by
    obtain ⟨b, hb, pb⟩ := pd
    exact ⟨v, .ty n, _, _, b, rfl, .ty n, tyx_dp (Dp.mn (tp_sub (j := true) s1.sub) rd.1), kit_ty hb, kk b (.bl b) I1 H1 pb s1 rfl⟩) x
theorem se_isi {n m : String} {b : Bool} {ta : TE} {A : Rp α} {ma : D α} (ty : ∀ J I v a, A.top J I v a → ∀ H, Same J H → TyX Z.K H v (.type m)) (hb : kitB m n = some b) (ha : SE Z true Γ ta A ma) : SE Z j Γ (tCB (rIsi Z.K) (tCons ta (tCons (tC (.ty n)) tNil))) rB (D.bind ma fun _ => D.pure b) := fun φ σ w H Q P X hn hA hm kk x =>
  ha φ σ w H _ _ X hn hA hm (fun d v I1 H1 pd s1 rd => ⟨v, .ty n, _, _, b, rfl, .ty n, ty _ _ _ _ rd _ (tp_sub (j := true) s1.sub), kit_ty hb, kk b (.bl b) I1 H1 pd s1 rfl⟩) x
theorem tyx_I : ∀ (J I : Hp) v a, rI.top J I v a → ∀ H, Same J H → TyX K H v (.type "int") := fun _ _ v a h _ _ => by rw [show v = .int a from h]; exact .base (.int a)
theorem tyx_B : ∀ (J I : Hp) v a, rB.top J I v a → ∀ H, Same J H → TyX K H v (.type "bool") := fun _ _ v a h _ _ => by rw [show v = .bl a from h]; exact .base (.bl a)
theorem tyx_S : ∀ (J I : Hp) v a, rS.top J I v a → ∀ H, Same J H → TyX K H v (.type "str") := fun _ _ v a h _ _ => by rw [h.1]; exact .base (.str a)
theorem tyx_L {A : Rp α} : ∀ (J I : Hp) v a, (rL A).top J I v a → ∀ H, Same J H → TyX K H v (.type "list") := fun _ _ v a ⟨p, vs, e, h, _⟩ _ s => by rw [e]; exact .base (.lst (s _ _ h))
/-! ### truth -/
theorem st_truthL {ta : TE} {A : Rp α} {m : D (List α)} (h : SE Z true Γ ta (rL A) m) : ST Z Γ (fun σ H Q => ta σ H fun x H' => ∃ k, TruV Z.K x H' k ∧ Q k H') (D.bind m fun xs => D.pure (!xs.isEmpty)) := fun φ σ w H Q P X hn hA hm k x =>
  h φ σ w H _ _ X hn hA hm (fun a v I' H' pa s ⟨p, vs, e, h1, l, pr⟩ => ⟨!vs.isEmpty, by rw [e]; exact .inl ⟨vs, SqL.of (tp_sub (j := true) s.sub _ _ h1), rfl⟩, k _ I' H' (by
    have : vs.isEmpty = a.isEmpty := by cases pr <;> rfl
    rw [this]
    exact pa) s⟩) x
theorem st_truthB {ta : TE} {m : D Bool} (h : SE Z true Γ ta rB m) : ST Z Γ (fun σ H Q => ta σ H fun x H' => ∃ k, TruV Z.K x H' k ∧ Q k H') m := fun φ σ w H Q P X hn hA hm k x =>
  h φ σ w H _ _ X hn hA hm (fun a v I' H' pa s h1 => ⟨a, by rw [show v = .bl a from h1]; exact rfl, k _ I' H' pa s⟩) x
/-! ### f'..' -/
inductive SJ (Z : Px) (Γ : List Cell) : List TE → (Str → D Str) → Prop where
  | nil : SJ Z Γ [] (fun acc => D.pure acc)
  | cons {t : TE} {ts : List TE} {m : D Str} {m2 : Str → D Str} (h : SE Z true Γ t rS m) (r : SJ Z Γ ts m2) : SJ Z Γ (t :: ts) (fun acc => D.bind m fun a => D.need ((acc ++ a).length ≤ sizeLine) (m2 (acc ++ a)))
theorem sj_fi {te : TE} {m : D Int} (h : SE Z true Γ te rI m) : SE Z j Γ (tFmt te) rS (D.bind m fun i => D.need (i.natAbs.log2 < 1920 ∧ Asc (toString i) ∧ (toString i : Str).length ≤ sizeLine) (D.pure (toString i))) := fun φ σ w H Q P X hn hA hm k x =>
  h φ σ w H _ _ X hn hA hm (fun a v I' H' pa s h1 => .inr ⟨a, h1, pa.1.1, k _ _ I' H' pa.2 s ⟨rfl, pa.1.2⟩⟩) x
theorem sj_fs {te : TE} {m : D Str} (h : SE Z true Γ te rS m) : SE Z j Γ (tFmt te) rS m := fun φ σ w H Q P X hn hA hm k x =>
  h φ σ w H _ _ X hn hA hm (fun a v I' H' pa s h1 => .inl ⟨a, h1.1, h1.2.2, k _ _ I' H' pa s ⟨rfl, h1.2⟩⟩) x
theorem sj_run {ts : List TE} {m : Str → D Str} (h : SJ Z Γ ts m) : ∀ (φ : Fr) (σ : L2.St) (w : Wd) (H : Hp) (acc : Str) (Q : Str → Hp → Prop) (P : Str → Prop) (X : Ex → Prop), φ.n = Z.n → At φ Γ σ w H → Asc acc → acc.length ≤ sizeLine → m acc P X →
    (∀ z I' H', P z → Go w H I' H' → Asc z → z.length ≤ sizeLine → Q z H') → (∀ e c d I' H', X e → Go w H I' H' → e.rep Z.K Z.mg I' c d → Z.E c d H') → tJs ts acc σ H Q := by
  induction h with
  | nil => exact fun φ σ w H acc Q P X hn hA ha hl hm k x => k acc w.I H hm hA.rf ha hl
  | cons h r ih =>
    intro φ σ w H acc Q P X hn hA ha hl hm k x
    exact h φ σ w H _ _ X hn hA hm (fun a v I1 H1 pa s1 ra => ⟨a, ra.1, pa.1, ih φ σ (w.to I1) H1 (acc ++ a) Q P X hn (hA.step s1) (My.asc_app ha ra.2.1) pa.1 pa.2 (fun z I' H' px g as l => k z I' H' px (s1.trans g) as l) (xg s1 x)⟩) x
theorem se_joined {ts : List TE} {m : Str → D Str} (h : SJ Z Γ ts m) : SE Z j Γ (fun σ H Q => tJs ts Str.empty σ H fun out H1 => Q (.str out) H1) rS (m Str.empty) := fun φ σ w H Q P X hn hA hm k x =>
  sj_run h φ σ w H Str.empty _ P X hn hA (fun c hc => nomatch hc) (Nat.zero_le _) hm (fun z I' H' pz g as l => k z _ I' H' pz g ⟨rfl, as, l⟩) x
end
end Lx
namespace Lx
open PySem PySem.Spec PyProof.Rows L2 TL
open My (Asc)
theorem log_lt {i : Int} (h0 : 0 ≤ i) (h1 : i < 10 ^ 101) : i.natAbs.log2 < 1920 := by
  by_cases hz : i.natAbs = 0
  · rw [hz]
    decide
  · rw [Nat.log2_lt hz]
    have h : i.natAbs < 10 ^ 101 := by omega
    exact Nat.lt_trans h (by decide +kernel)
theorem dig_lt (n : Nat) : ∀ c ∈ numL n, c < 128 := fun c hc => by
  have := numL_digits n c hc
  omega
theorem asc_num {i : Int} (h0 : 0 ≤ i) : Asc (Str.ofString (toString i)) := by
  obtain ⟨n, rfl⟩ : ∃ n : Nat, i = n := ⟨i.toNat, by omega⟩
  intro c hc
  have hc' : c ∈ tl (Str.ofString (toString (n : Int))) := hc
  rw [tl_num] at hc'
  exact dig_lt n c hc'
theorem len_num {i : Int} {k : Nat} (hk : 0 < k) (h0 : 0 ≤ i) (h1 : i < 10 ^ k) : (Str.ofString (toString i)).length ≤ k := by
  obtain ⟨n, rfl⟩ : ∃ n : Nat, i = n := ⟨i.toNat, by omega⟩
  have e : (tl (Str.ofString (toString (n : Int)))).length = (Str.ofString (toString (n : Int))).length := My.len_tl _
  rw [tl_num] at e
  have hn : n < 10 ^ k := by
    have : ((n : Nat) : Int) < ((10 ^ k : Nat) : Int) := by rw [Int.natCast_pow]; exact h1
    exact Int.ofNat_lt.mp this
  have := numL_len hk hn
  omega
/-- str(i) of a small number -/
theorem strI_ok {i : Int} {k : Nat} (h0 : 0 ≤ i) (h1 : i < 10 ^ k) (hk : 0 < k ∧ k ≤ 101) : i.natAbs.log2 < 1920 ∧ Asc (Str.ofString (toString i)) ∧ (Str.ofString (toString i)).length ≤ sizeLine := by
  refine ⟨log_lt h0 (Int.lt_of_lt_of_le h1 ?_), asc_num h0, Nat.le_trans (len_num hk.1 h0 h1) (Nat.le_trans hk.2 (by decide))⟩
  have : (10 ^ k : Nat) ≤ 10 ^ 101 := Nat.pow_le_pow_right (by decide) hk.2
  have h : ((10 ^ k : Nat) : Int) ≤ ((10 ^ 101 : Nat) : Int) := Int.ofNat_le.mpr this
  rw [Int.natCast_pow, Int.natCast_pow] at h
  exact h
/-- a sign of a text, drawn -/
theorem at_draw {α : Type} {xs : List α} {r : Int} {Q : α → Prop} (h : 0 ≤ r ∧ r < xs.length) (q : ∀ c, c ∈ xs → Q c) : ∃ c, atI xs r = some c ∧ Q c := by
  obtain ⟨c, hc, e⟩ := My.atI_in h.1 h.2
  exact ⟨c, e, q c hc⟩
theorem ones_sum {α : Type} : ∀ {xs : List α} {ys : List Str}, Paired (fun _ (y : Str) => y.length ≤ 1) xs ys → (ys.map (·.length)).sum ≤ xs.length ∧ ys.length = xs.length
  | _, _, .nil => ⟨Nat.le_refl _, rfl⟩
  | _, _, .cons h t => by
    obtain ⟨a, b⟩ := ones_sum t
    simp only [List.map_cons, List.sum_cons, List.length_cons]
    omega
theorem each_sum {α : Type} {n : Nat} : ∀ {xs : List α} {ys : List Str}, Paired (fun _ (y : Str) => y.length ≤ n) xs ys → (ys.map (·.length)).sum ≤ xs.length * n ∧ ys.length = xs.length
  | _, _, .nil => ⟨Nat.zero_le _, rfl⟩
  | _, _, .cons h t => by
    obtain ⟨a, b⟩ := each_sum t
    simp only [List.map_cons, List.sum_cons, List.length_cons, Nat.add_mul]
    omega
theorem join_le {a : Str} {ys : List Str} {n : Nat} (h : (ys.map (·.length)).sum + ys.length * a.length ≤ n) : (Txt.join a ys).length ≤ n := Nat.le_trans (My.join_len a ys) h
theorem sz {n : Nat} (h : n ≤ 1000000) : n ≤ sizeLine := Nat.le_trans h (by decide)
theorem app_le {a b : Str} {n m : Nat} (ha : a.length ≤ n) (hb : b.length ≤ m) : (a ++ b).length ≤ n + m := by rw [My.len_app]; omega
theorem mul_le {a : Str} {n : Int} {m : Nat} (h : a.length * n.toNat ≤ m) : (Txt.mul a n).length ≤ m := Nat.le_trans (mul_len a n) h
theorem cut_le {z : Str} {lo hi : Option Int} {n : Nat} (h : z.length ≤ n) : (cutS z lo hi).length ≤ n := Nat.le_trans (My.cutS_len _ _ _) h
theorem at_str {xs : List Str} {r : Int} {Q : Str → Prop} {n : Nat} (h : 0 ≤ r ∧ r < xs.length) (hx : ∀ z ∈ xs, z.length ≤ n) (q : ∀ z, z.length ≤ n → Q z) : ∃ c, atI xs r = some c ∧ Q c := at_draw h fun c hc => q c (hx c hc)
/-- a text of n drawn signs -/
theorem compD_signs {me : Int → D Str} {X : Ex → Prop} {n : Nat} {lo : Int} {P : List Str → Prop} (h : ∀ x Q, (∀ y : Str, y.length ≤ 1 → Q y) → me x Q X) (k : ∀ ys : List Str, (ys.map (·.length)).sum ≤ n → ys.length = n → P ys) : compD (fun _ => D.pure true) me (rngL lo n) P X :=
  compD_any (fun _ (y : Str) => y.length ≤ 1) P X (rngL lo n) (fun x _ Q q => h x Q q) fun ys pr => by
    obtain ⟨a, b⟩ := ones_sum pr
    rw [rngL_len] at a b
    exact k ys a b
theorem compD_each {me : Int → D Str} {X : Ex → Prop} {n m : Nat} {lo : Int} {P : List Str → Prop} (h : ∀ x Q, (∀ y : Str, y.length ≤ m → Q y) → me x Q X) (k : ∀ ys : List Str, (ys.map (·.length)).sum ≤ n * m → ys.length = n → P ys) : compD (fun _ => D.pure true) me (rngL lo n) P X :=
  compD_any (fun _ (y : Str) => y.length ≤ m) P X (rngL lo n) (fun x _ Q q => h x Q q) fun ys pr => by
    obtain ⟨a, b⟩ := each_sum pr
    rw [rngL_len] at a b
    exact k ys a b
end Lx
namespace Lx
open PySem PySem.Spec PyProof.Rows
open PySem.W PySem.Calls
section
variable {prog : Program} {w : World} {A : Around} {E : Value → Shared → Prop} {s : Shared} {K : Frag} {x D : Addr} {ob : Obj} {dd : Option Obj}
/-- an error with or without a dict of its own, for isinstance (the library's kitx_exc) -/
theorem kit_err (c : L2.ExcC K D) : KitX K (.ref x) (.ref D) (fun h => InstAt h x ob D dd) := kitx_exc (by obtain ⟨cd, hc, _⟩ := any_some c.hd; rw [hc]; rfl) c.hg c.hk c.hs c.ha c.hn c.ht c.hm
end
end Lx
namespace Lx
open PySem PySem.Spec PyProof.Rows L2
section
variable {X : Cx} {a D : Addr} {oe : Obj} {pn : List (Addr × Obj)} {cls : Value} {d : Option Addr}
/-- the caught error as its class's instance, with its dict -/
theorem err_inst {pins : List (Addr × Obj)} {σ : L2.St} {H : Hp} {s : Shared} {dx : Addr} {fs : List (Str × V)} (I : Inv (X.suite a ((a, oe) :: pn)) pins σ H s) (hz : Zc (.ref D) (some dx) oe) (hf : ∃ vs, oe.data = .fields vs) (hd : H dx = some (.xd fs)) : ∃ od, PySem.W.InstAt s.heap a oe D (some od) := by
  obtain ⟨ha, _⟩ := I.pin (a, oe) (List.mem_append_left _ List.mem_cons_self)
  obtain ⟨vs, hv⟩ := hf
  have ox : ObjOk X.prog X.w H s.heap dx (.xd fs) := I.hok dx _ hd
  obtain ⟨mA, hns, hr⟩ := ox
  obtain ⟨od, ho, hl⟩ := lookIn_ns hns
  exact ⟨od, ha, hz.1, by unfold PySem.W.notCls; rw [hv] <;> rfl, by rw [hz.2]; exact ho⟩
/-- isinstance(e, c), e the error that the suite holds, of the class at D, its dict told -/
def rIsX (K : PySem.W.Frag) (cls : Value) (d : Option Addr) (a : Addr) : List V → Hp → VK → Prop := fun xs H Q => ∃ (D dx : Addr) (fs : List (Str × V)) (c : V) (u : Value) (b : Bool), cls = .ref D ∧ d = some dx ∧ ExcC K D ∧ H dx = some (.xd fs) ∧ xs = [.ref a, c] ∧ ClsV c u ∧ PySem.W.kitOne K (.ref D) u = some b ∧ Q (.bl b) H
theorem call_isX (hz : Zc cls d oe) (hf : ∃ vs, oe.data = .fields vs) : CallR (X.suite a ((a, oe) :: pn)) (.builtin "isinstance") (rIsX X.K cls d a) := by
  intro pins s σ H xs us Q I r h
  obtain ⟨D, dx, fs, c, u, b, rfl, rfl, C, hd, rfl, hc, e, q⟩ := h
  obtain ⟨u1, u2, rfl, r1, r2⟩ := vals2 r
  cases (show u1 = Value.ref a from r1)
  obtain ⟨od, J⟩ := err_inst I hz hf hd
  have e2 : u2 = u := by
    cases hc with
    | ty n => exact r2
    | own C => exact r2
  subst e2
  exact PySem.W.kia_one (kit_err C) I.kIn J e (fun z => nomatch z) fun tk => ⟨.bl b, H, I.tok tk, rfl, q⟩
/-- isinstance(e, (c, ..)) -/
def rIsXT (K : PySem.W.Frag) (cls : Value) (d : Option Addr) (a : Addr) : List V → Hp → VK → Prop := fun xs H Q => ∃ (D dx : Addr) (fs : List (Str × V)) (tp : Addr) (cs : List V) (ws : List Value) (b : Bool), cls = .ref D ∧ d = some dx ∧ ExcC K D ∧ H dx = some (.xd fs) ∧ xs = [.ref a, .ref tp] ∧ H tp = some (.tup cs) ∧ Paired ClsV cs ws ∧ PySem.W.kitAny K (.ref D) ws = some b ∧ Q (.bl b) H
theorem call_isXT (hz : Zc cls d oe) (hf : ∃ vs, oe.data = .fields vs) : CallR (X.suite a ((a, oe) :: pn)) (.builtin "isinstance") (rIsXT X.K cls d a) := by
  intro pins s σ H xs us Q I r h
  obtain ⟨D, dx, fs, tp, cs, ws, b, rfl, rfl, C, hd, rfl, hT, k, e, q⟩ := h
  obtain ⟨u1, u2, rfl, r1, r2⟩ := vals2 r
  cases (show u1 = Value.ref a from r1)
  cases (show u2 = Value.ref tp from r2)
  obtain ⟨od, J⟩ := err_inst I hz hf hd
  obtain ⟨_, its, rv, o, h1, h2, n, h3⟩ := (show ObjOk X.prog X.w H s.heap tp (.tup cs) from I.hok tp _ hT)
  have e3 := ClsV.all k rv
  subst e3
  obtain ⟨oc, od', dt, sl⟩ := o
  simp only at h2 h3
  subst h2 h3
  exact PySem.W.kia_tup (kit_err C) I.kIn J h1 e (fun z => nomatch z) fun tk => ⟨.bl b, H, I.tok tk, rfl, q⟩
end
end Lx
namespace Lx
open PySem PySem.Spec PyProof.Rows L2 TL
section
variable {Z : Px} {j : Bool} {Γ : List Cell} {α β γ δ : Type} {K : PySem.W.Frag}
/-- the promise of an error's __init__ that stores its one argument -/
def spEI (f : Str) (C : Addr) : Sp := fun vs H Q _ => ∃ (a : Addr) (y : V), vs = [.ref a, y] ∧ H a = some (exo a C none) ∧ ∀ dx, H dx = none → dx ≠ a → Q .non (upd (upd H dx (exd dx [(f, y)])) a (exo a C (some dx)))
theorem made_heap {H : Hp} {a d : Addr} {o o2 o3 o4 : HO} (ha : H a = none) (hda : d ≠ a) : upd (del (upd (upd (upd H a o) d o2) a o3) a) d o4 = upd H d o4 := by
  funext b
  by_cases h1 : b = d
  · subst h1
    rw [upd_same, upd_same]
  · rw [upd_ne h1, upd_ne h1]
    by_cases h2 : b = a
    · subst h2
      rw [del_same, ha]
    · rw [del_ne h2, upd_ne h2, upd_ne h1, upd_ne h2]
section
variable {S L : Type} {R : Rp γ} {Γn : S → List Cell} {Γl : L → List Cell}
/-- raise C(e) -/
theorem sb_raise {C : Addr} {cn f : Str} {te : TE} {A : Rp α} {me : D α} [d : ToD Z.K A] (hm : Z.mg cn = some (.ref C)) (he : SE Z false Γ te A me) : SB Z Γ (fun _ σ H => tMkO C (spEI f C) [] (tCons te tNil) σ H fun cls d H' => Z.E cls d H') R Γn Γl (fun _ _ _ _ X => me (fun a => X ⟨cn, [(f, d.enc a)]⟩) X) := fun φ σ w H Dn rt nx bk ct X hn hA hm' k1 k2 k3 k4 k5 =>
  he φ σ w H _ _ X hn hA hm' (fun a v I' H' pa s r => by
    refine ⟨by show 1 ≤ 1000; decide, fun e he' => ⟨e, v, rfl, upd_same, fun dx hdx ndx => ⟨rfl, dx, [(f, v)], upd_same, ?_, ?_, ?_⟩⟩⟩
    · rw [upd_ne ndx, upd_same]
    · rw [upd_ne ndx] at hdx
      exact hdx
    · rw [upd_ne ndx] at hdx
      rw [made_heap he' ndx]
      have g := go_new1 (w := w.to I') s.sub hdx (.xd [(f, v)])
      refine k5 _ _ _ (w.to (upd I' dx (.xd [(f, v)]))) _ pa ((hA.go.go s).go g) ⟨hm, dx, _, rfl, upd_same, .cons ⟨rfl, ?_⟩ .nil⟩
      exact Dp.mn g.i (d.dp (Same.refl _) r))
    (kx hA.go k5)
end
/-- a body read: a def that may raise -/
theorem fnX {mg : Str → Option Value} {N : List Str} {t : TS} {S0 : Rps β} {R : Rp γ} {cs : β → List Cell} {m0 : β → D γ} {m : β → M γ Unit Unit} {E : XK} (pr : Prm S0 0 cs) (pl : ∀ J I vs b, S0.top J I vs b → vs.length ≤ N.length) {Γn : β → Unit → List Cell} {Γl : β → Unit → List Cell}
    (hb : ∀ b, SB ⟨K, mg, E, N.length⟩ (cs b) t R (Γn b) (Γl b) (m b))
    (hm : ∀ b P X, m0 b P X → m b P (fun _ => False) (fun _ => False) (fun _ => False) X) {vs : List V} {H : Hp} {Q : VK} {q : L2.St → Hp → Prop} (h : spF K mg S0 R m0 vs H Q E) : t { nx := q, rt := Q } (L2.start N vs) H := by
  obtain ⟨I, b, P, X, s, rp, km, kq, kx⟩ := h
  have l := pl _ _ _ _ rp
  refine hb b ⟨N.length, ⟨I, fun _ => none, fun _ => none⟩, H⟩ (L2.start N vs) ⟨I, fun _ => none, fun _ => none⟩ H _ P _ _ _ X rfl ⟨⟨Same.refl _, fun _ _ => rfl, fun _ _ => rfl, fun _ _ => rfl, fun _ _ _ h => h, s, (fun _ _ h => nomatch h), (fun _ _ h => nomatch h), fun _ _ ns _ h => ⟨ns, h, rfl⟩, fun _ h => h⟩, start_len l, hold_of (pr I I vs b _ _ H rp (Same.refl _) (Same.refl _) fun k v e => by rw [Nat.zero_add]; exact start_at e l)⟩ (hm b P X km) (fun c v w' H' pc g r => kq c v w'.I H' pc ⟨g.i, g.sub, fun b o h => g.keep b o rfl h, g.inew⟩ r) (fun _ _ _ _ z => z.elim) (fun _ _ _ _ z => z.elim) (fun _ _ _ _ z => z.elim) (fun e c d w' H' xe g r => kx e c d w'.I H' xe ⟨g.i, g.sub, fun b o h => g.keep b o rfl h, g.inew⟩ r)
end
end Lx
namespace Lx
open PySem PySem.Spec PyProof.Rows L2 TL
open My (Asc)
section
variable {Z : Px} {j : Bool} {Γ : List Cell} {α β γ δ : Type} {K : PySem.W.Frag}
/-! ### lists of things that may be none, where none is -/
theorem prd_some {R : Rp α} {I : Hp} : ∀ {vs : List V} {ys : List α}, Paired ((rO R).rep I) vs (ys.map some) → Paired (R.rep I) vs ys
  | _, [], .nil => .nil
  | _, _ :: _, .cons h t => .cons h.2 (prd_some t)
theorem SE.getAll {t : TE} {R : Rp α} {m : D (List (Option α))} (h : SE Z j Γ t (rL (rO R)) m) : SE Z j Γ t (rL R) (D.bind m fun xs => fun P _ => ∃ ys : List α, xs = ys.map some ∧ P ys) := SE.cast (fun J I v xs P X r hp => by
  obtain ⟨ys, rfl, py⟩ := hp
  obtain ⟨p, vs, e, h1, l, pr⟩ := r
  exact ⟨ys, py, p, vs, e, h1, by rw [List.length_map] at l; exact l, prd_some pr⟩) h
/-! ### lists as lists of data -/
theorem prd_any {R : Rp α} (d : ToD K R) {I : Hp} : ∀ {vs : List V} {xs : List α}, Paired (R.rep I) vs xs → Paired ((rD K).rep I) vs (xs.map d.enc)
  | _, _, .nil => .nil
  | _, _, .cons h t => .cons ⟨d.dp (Same.refl _) h, d.lay h⟩ (prd_any d t)
theorem SE.anyL {t : TE} {R : Rp α} {m : D (List α)} [d : ToD Z.K R] (h : SE Z j Γ t (rL R) m) : SE Z j Γ t (rL (rD Z.K)) (D.bind m fun xs => D.pure (xs.map d.enc)) := SE.map (R := rL R) (R' := rL (rD Z.K)) (fun J I v xs r => by
  obtain ⟨p, vs, e, h1, l, pr⟩ := r
  exact ⟨p, vs, e, h1, by rw [List.length_map]; exact l, prd_any d pr⟩) h
/-! ### xs.index(x) -/
theorem idxDK {X : Cx} (K : PySem.W.Frag) (h : X.K = K) (hu : X.A.units + 65 < cLine) : MtR X "list.index" (rIndexD K) := h ▸ mt_indexD hu
theorem ro_indexD {R : Rp α} [DecidableEq α] [d : DatO K R] (l : d.dep ≤ 59 := by exact Nat.le_of_ble_eq_true rfl) : ROM (rIndexD K) (rL R) (rsC R rs0) rI (fun xs b => D.need (b.1 ∈ xs) (D.pure (xs.idxOf b.1 : Int))) := fun J I H v us xs b Q P X sj s ⟨p, vs, e, h1, le, pr⟩ ⟨u, r, e2, h2, h3⟩ hk q => by
  cases (show r = [] from h3)
  subst e
  have hi := List.idxOf_lt_length_iff.mpr hk.1
  have hat : xs[xs.idxOf b.1]? = some b.1 := by rw [List.getElem?_eq_getElem hi, List.getElem_idxOf hi]
  refine ⟨p, u, d.enc b.1, xs.map d.enc, xs.idxOf b.1, d.enc b.1, rfl, e2, .lst (SqL.of (s _ _ h1)) (DpAll.mn (sj.trans s) (dpAll_of d pr)), Dp.mn s (d.dp sj h2), shaped_of (layAll_of d pr) (Nat.succ_le_succ (Nat.le_trans (depAll_of d.enc d.dle xs) l)), shaped_of (d.lay h2) (Nat.le_trans (d.dle b.1) (by omega)), by rw [List.getElem?_map, hat]; rfl, SeqAt.eqv_refl _ (d.lay h2), fun m z' hm hz => ?_, q _ _ I H hk.2 (Gw.refl (sj.trans s)) rfl⟩
  rw [List.getElem?_map] at hz
  cases ha : xs[m]? with
  | none =>
    rw [ha] at hz
    cases hz
  | some a =>
    rw [ha] at hz
    cases hz
    cases hq : PyData.eqv (d.enc a) (d.enc b.1) with
    | false => rfl
    | true =>
      have := d.inj _ _ hq
      subst this
      have hml : m < xs.length := (List.getElem?_eq_some_iff.mp ha).1
      have hne := List.not_of_lt_findIdx (p := fun y => y == b.1) (xs := xs) (i := m) hm
      rw [List.getElem?_eq_getElem hml] at ha
      have e3 := Option.some.inj ha
      simp only [e3, beq_self_eq_true] at hne
      cases hne
/-! ### objects that do not change -/
def FldR (K : PySem.W.Frag) (A : Rp α) (f : Str) (B : Rp β) (g : α → β) : Prop := ∀ (J I H : Hp) (v : V) (a : α), Same I J → Same J H → A.top J I v a → ∃ p C dx fs u, v = .ref p ∧ H p = some (.ins C dx fs) ∧ Cls K C ∧ NoAttr K C f ∧ fs.lookup f = some u ∧ B.rep I u (g a)
theorem se_fld {A : Rp α} {B : Rp β} {f : Str} {g : α → β} {ta : TE} {ma : D α} (hf : FldR Z.K A f B g) (ha : SE Z true Γ ta A ma) : SE Z j Γ (tFld Z.K ta f) B (D.bind ma fun a => D.pure (g a)) := fun φ σ w H Q P X hn hA hm kk x =>
  ha φ σ w H _ _ X hn hA hm (fun a v I1 H1 pa s1 ra => by
    obtain ⟨p, C, dx, fs, u, e1, e2, e3, e4, e5, e6⟩ := hf _ _ _ _ _ (i_jn (w := w.to I1) (hA.step s1).go) (tp_sub (j := true) s1.sub) ra
    exact ⟨p, C, dx, fs, u, e1, e2, e3, e4, e5, kk _ _ I1 H1 pa s1 (B.up (i_tp (w := w.to I1) j (hA.step s1).go) e6)⟩) x
theorem se_isO {C1 C2 : Addr} {b : Bool} {ta : TE} {A : Rp α} {ma : D α} (ty : (∀ J I v a, A.top J I v a → ∀ H, Same J H → TyX Z.K H v (.ref C1)) ∧ PySem.W.kitOne Z.K (.ref C1) (.ref C2) = some b) (ha : SE Z true Γ ta A ma) : SE Z j Γ (tCB (rIsi Z.K) (tCons ta (tCons (tC (.ref C2)) tNil))) rB (D.bind ma fun _ => D.pure b) := fun φ σ w H Q P X hn hA hm kk x =>
  ha φ σ w H _ _ X hn hA hm (fun d v I1 H1 pd s1 rd => ⟨v, .ref C2, _, _, b, rfl, .own C2, ty.1 _ _ _ _ rd _ (tp_sub (j := true) s1.sub), ty.2, kk b (.bl b) I1 H1 pd s1 rfl⟩) x
/-! ### a well made for one call -/
theorem se_callWW {E E2 : XK} {k : Nat} {te : TE} {t : TA} {S : Rps β} {R : Rp γ} {mi : D Int} {mb : D β} {m : β → D γ} (he : SE Z true Γ te rI mi) (h : SA Z false Γ t S mb) : SE Z j Γ (tCall (spW k S R m) [] E (tCons (tCall (spWl k) [] E2 (tCons te tNil)) t)) R (D.bind mi fun _ => D.bind mb fun b => D.nox (m b)) := fun φ σ w H Q P X hn hA hm kk x =>
  he φ σ w H _ _ X hn hA hm (fun n v I1 H1 pn s1 rn => by
    cases (show v = .int n from rn)
    refine ⟨n, rfl, fun p ns hp hl => ?_⟩
    have A1 := hA.step s1
    have g1 : Go (w.to I1) H1 I1 (upd H1 p (.lst (ns.map V.int))) := go_loose (w := w.to I1) hp (Go.rf (w := w.to I1) s1.sub) (s1.sub.free hp) _
    have g2 := s1.trans g1
    have oo := own_fresh A1 hp
    refine h φ σ (w.to I1) _ _ _ X hn (hA.step g2) pn (fun b us I2 H2 pb s2 rb => ?_) (xg g2 x)
    have e2 : H2 p = some (.lst (ns.map V.int)) := s2.kept _ _ oo.2 upd_same
    have i2 : I2 p = none := (s2.new p (nn upd_same)).trans (s1.sub.free hp)
    show spW k S R m ((.ref p :: us) ++ []) H2 Q E
    rw [List.append_nil]
    refine ⟨p, ns, us, I2, b, P, rfl, e2, hl, i2, s2.sub, rb, pb, fun c u I' H' pc g rc => ?_⟩
    have g3 := g1.trans s2
    have old : ∀ {b : Addr}, H1 b ≠ none → b ≠ p := fun hb z => hb (by rw [z]; exact hp)
    have g4 : Go (w.to I1) H1 I' H' := ⟨g3.i.trans g.i, g.sub, fun b hb => (g.new b (g3.dom b hb)).trans (g3.new b hb), fun b o n e => g.h b o (old (nn e)) (g3.kept b o n e), fun b i ns n e => by
      obtain ⟨n2, q1, q2⟩ := g3.wells b i ns n e
      exact ⟨n2, g.h _ _ (old (nn e)) q1, q2⟩, fun b hb => by
      obtain ⟨o, e⟩ := sm (g3.dom b hb)
      exact nn (g.h b o (old hb) e)⟩
    have g5 := s1.trans g4
    exact kk c u I' H' pc g5 (R.up (i_tp (w := w.to I') j (hA.step g5).go) rc)) x
end
end Lx
namespace Lx
open PySem PySem.Spec PyProof.Rows L2 TL PySem.Builtin.Str
open My (Asc)
/-- find and partition tell the same place -/
theorem find_part (x y : Str) : (∃ i : Nat, Txt.find x y = (i : Int) ∧ Txt.partition x y = (cutS x none (some (i : Int)), y, cutS x (some ((i : Int) + y.length)) none)) ∨ (Txt.find x y = -1 ∧ Txt.partition x y = (x, Str.empty, Str.empty)) := by
  unfold Txt.find Txt.partition
  cases h : occurrences x y 0 x.length 1 with
  | nil => exact .inr ⟨rfl, rfl⟩
  | cons i r =>
    refine .inl ⟨i, rfl, ?_⟩
    have e1 : strSub x 0 i = cutS x none (some (i : Int)) := ext_tl (by
      rw [tl_strSub]
      show _ = ((tl x).drop 0).take (HT.sIx x.length x.length (some (i : Int)) - 0)
      rw [HT.sIx_nat, List.drop_zero, Nat.sub_zero, Nat.sub_zero]
      have hx : (tl x).length = x.length := My.len_tl x
      by_cases hi : i ≤ x.length
      · rw [Nat.min_eq_left hi]
      · rw [Nat.min_eq_right (by omega), List.take_of_length_le (by omega), List.take_of_length_le (by omega)])
    have e2 : strSub x (i + y.length) x.length = cutS x (some ((i : Int) + y.length)) none := ext_tl (by
      rw [tl_strSub]
      show _ = ((tl x).drop (HT.sIx x.length 0 (some ((i : Int) + y.length)))).take (x.length - HT.sIx x.length 0 (some ((i : Int) + y.length)))
      have hc : (i : Int) + y.length = ((i + y.length : Nat) : Int) := by omega
      rw [hc, HT.sIx_nat]
      have hx : (tl x).length = x.length := My.len_tl x
      by_cases hi : i + y.length ≤ x.length
      · rw [Nat.min_eq_left hi]
      · rw [Nat.min_eq_right (by omega), List.drop_of_length_le (by omega), List.drop_of_length_le (by omega)]
        simp)
    rw [← e1, ← e2]
theorem strip_sub (g : Nat → Bool) (l r : Bool) (x : Str) : (Txt.stripBy g l r x).length ≤ x.length ∧ ∀ c ∈ (Txt.stripBy g l r x).cps.toList, c ∈ x.cps.toList := by
  unfold Txt.stripBy
  split
  · exact ⟨Nat.le_refl _, fun c h => h⟩
  · unfold stripped PySem.Builtin.Str.strSub
    constructor
    · show (Array.extract _ _ _).size ≤ x.cps.size
      rw [Array.size_extract]
      omega
    · intro c hc
      have hc' : c ∈ (Array.extract x.cps _ _).toList := hc
      rw [Array.toList_extract] at hc'
      exact List.mem_of_mem_drop (List.mem_of_mem_take hc')
theorem strip_ok {a b : Str} (h : Asc a) : Asc (Txt.stripChars a b) ∧ (Txt.stripChars a b).length ≤ a.length := by
  have := strip_sub (fun c => b.cps.contains c) true true a
  exact ⟨fun c hc => h c (by unfold Txt.stripChars at hc; exact (strip_sub _ _ _ a).2 c hc), by unfold Txt.stripChars; exact (strip_sub _ _ _ a).1⟩
theorem forD_unit {α γ : Type} {body : α → Unit → M γ Unit Unit} {rt : γ → Prop} {nx : Unit → Prop} {X : Ex → Prop} (hn : nx ()) : ∀ {xs : List α}, (∀ x ∈ xs, ∀ k : Unit → Prop, k () → body x () rt k nx k X) → forD body rt nx X xs ()
  | [], _ => hn
  | x :: xs, h => h x (List.mem_cons_self ..) _ (forD_unit hn fun y hy => h y (List.mem_cons_of_mem _ hy))
theorem of_ints {I : Hp} : ∀ ns : List Int, Paired (rI.rep I) (ns.map V.int) ns
  | [] => .nil
  | _ :: r => .cons rfl (of_ints r)
theorem law_imp {K : PySem.W.Frag} : ∀ vs H Q E, My.spLaw K vs H Q E → spF0 (rsC (rScr K rI) rs0) rB (fun _ => D.pure true) vs H Q E := fun vs H Q E ⟨a, ns, e, hs, hl, q⟩ =>
  ⟨H, (⟨ns⟩, ()), fun c => c = true, Same.refl _, ⟨.ref a, [], e, ⟨a, ns.map V.int, rfl, hs, Nat.le_trans hl (by decide), of_ints ns⟩, rfl⟩, rfl, fun c v I' H' pc _ r => by
    subst pc
    rw [show v = .bl true from r]
    exact q H'⟩
section
variable {K : PySem.W.Frag}
theorem ro_strip2 : ROM (fun x xs H Q => ∃ a b, x = .str a ∧ xs = [.str b] ∧ a.length ≤ sizeLine ∧ Q (.str (Txt.stripChars a b)) H) rS (rsC rS rs0) rS (fun a b => D.pure (Txt.stripChars a b.1)) := fun J I H v us a b Q P X sj s ha hb hk q => ro_strip J I H v us a b Q P X sj s ha hb ⟨strip_ok ha.2.1, hk⟩ q
theorem spl_sub (S : List Nat) : ∀ (L : List Nat) (k : Nat) (acc : List Nat), (spl S k acc L).length ≤ L.length + 1 ∧ ∀ p ∈ spl S k acc L, p.length ≤ acc.length + L.length ∧ ∀ c ∈ p, c ∈ acc ∨ c ∈ L
  | [], k, acc => by
    rw [spl_nil]
    refine ⟨Nat.le_refl _, fun p hp => ?_⟩
    rw [List.mem_singleton.mp hp]
    exact ⟨Nat.le_add_right _ _, fun c hc => .inl hc⟩
  | c :: r, 0, acc => by
    cases h : pre S (c :: r) with
    | true =>
      rw [spl_hit h]
      obtain ⟨h1, h2⟩ := spl_sub S r (S.length - 1) []
      refine ⟨by rw [List.length_cons, List.length_cons]; omega, fun p hp => ?_⟩
      rcases List.mem_cons.mp hp with rfl | hp
      · exact ⟨Nat.le_add_right _ _, fun c hc => .inl hc⟩
      · have := h2 p hp
        refine ⟨by have := this.1; rw [List.length_nil] at this; rw [List.length_cons]; omega, fun c hc => ?_⟩
        rcases this.2 c hc with z | z
        · cases z
        · exact .inr (List.mem_cons_of_mem _ z)
    | false =>
      rw [spl_miss h]
      obtain ⟨h1, h2⟩ := spl_sub S r 0 (acc ++ [c])
      refine ⟨by rw [List.length_cons]; omega, fun p hp => ?_⟩
      have := h2 p hp
      refine ⟨by have := this.1; rw [List.length_append, List.length_singleton] at this; rw [List.length_cons]; omega, fun d hd => ?_⟩
      rcases this.2 d hd with z | z
      · rcases List.mem_append.mp z with z | z
        · exact .inl z
        · rw [List.mem_singleton.mp z]
          exact .inr (List.mem_cons_self ..)
      · exact .inr (List.mem_cons_of_mem _ z)
  | c :: r, k + 1, acc => by
    obtain ⟨h1, h2⟩ := spl_sub S r k acc
    show (spl S k acc r).length ≤ _ ∧ ∀ p ∈ spl S k acc r, _
    refine ⟨by rw [List.length_cons]; omega, fun p hp => ?_⟩
    have := h2 p hp
    refine ⟨by have := this.1; rw [List.length_cons]; omega, fun d hd => ?_⟩
    rcases this.2 d hd with z | z
    · exact .inl z
    · exact .inr (List.mem_cons_of_mem _ z)
theorem split_ok (x y : Str) (hy : tl y ≠ []) (hk : y.cps.all (· < 256) = true) : (Txt.split x y).length ≤ x.length + 1 ∧ ∀ p ∈ Txt.split x y, p.length ≤ x.length ∧ (Asc x → Asc p) := by
  have e := split_spl x y hy (kind_ok hk)
  obtain ⟨h1, h2⟩ := spl_sub (tl y) (tl x) 0 []
  have ez : (tl x).length = x.length := My.len_tl x
  rw [← e, List.length_map, ez] at h1
  refine ⟨h1, fun p hp => ?_⟩
  have := h2 (tl p) (by rw [← e]; exact List.mem_map.mpr ⟨p, hp, rfl⟩)
  rw [ez, List.length_nil] at this
  have ep : (tl p).length = p.length := My.len_tl p
  refine ⟨by omega, fun ax c hc => ?_⟩
  rcases this.2 c hc with z | z
  · cases z
  · exact ax c z
theorem ro_split2 : ROM (fun x xs H Q => ∃ a b, x = .str a ∧ xs = [.str b] ∧ (b.length == 0) = false ∧ a.length + 2 ≤ sizeLine ∧ rNewStrs (Txt.split a b) H Q) rS (rsC rS rs0) (rL rS) (fun a b => D.need (tl b.1 ≠ [] ∧ (b.1.length == 0) = false ∧ b.1.cps.all (· < 256) = true ∧ a.length + 2 ≤ sizeLine) (D.pure (Txt.split a b.1))) := fun J I H v us a b Q P X sj s ha hb hk q =>
  ro_split J I H v us a b Q P X sj s ha hb (by
    obtain ⟨h1, h2⟩ := split_ok a b.1 hk.1.1 hk.1.2.2.1
    have := hk.1.2.2.2
    exact ⟨⟨hk.1.2.1, this, by omega, fun z hz => ⟨(h2 z hz).2 ha.2.1, by have := (h2 z hz).1; omega⟩⟩, hk.2⟩) q
def isNoneD (d : PyData) : Bool := match d with
  | .none => true
  | _ => false
theorem isNone_of {H : Hp} {v : V} {d : PyData} (h : Dp K H v d) : decide (v = .non) = isNoneD d := by cases h <;> rfl
theorem ro_isND : RO2 (fun x y H Q => y = .non ∧ Q (.bl (decide (x = .non))) H) (rD K) rN rB (fun d _ => D.pure (isNoneD d)) := fun J I H v u a b Q P X sj s ha hb hk q => ⟨hb, q _ _ I H hk (Gw.refl (sj.trans s)) (congrArg V.bl (isNone_of ha.1))⟩
theorem ro_notND : RO2 (fun x y H Q => y = .non ∧ Q (.bl (!decide (x = .non))) H) (rD K) rN rB (fun d _ => D.pure (!isNoneD d)) := fun J I H v u a b Q P X sj s ha hb hk q => ⟨hb, q _ _ I H hk (Gw.refl (sj.trans s)) (by rw [isNone_of ha.1]; rfl)⟩
theorem part_ok {x y : Str} (hx : Asc x ∧ x.length ≤ sizeLine) (hy : Asc y ∧ y.length ≤ sizeLine) : (Asc (Txt.partition x y).1 ∧ (Txt.partition x y).1.length ≤ sizeLine) ∧ (Asc (Txt.partition x y).2.1 ∧ (Txt.partition x y).2.1.length ≤ sizeLine) ∧ Asc (Txt.partition x y).2.2 ∧ (Txt.partition x y).2.2.length ≤ sizeLine := by
  have e0 : Asc Str.empty ∧ Str.empty.length ≤ sizeLine := ⟨(fun c h => nomatch h), Nat.zero_le _⟩
  rcases find_part x y with ⟨i, _, e⟩ | ⟨_, e⟩
  · rw [e]
    exact ⟨⟨My.asc_cut hx.1 _ _, Nat.le_trans (My.cutS_len _ _ _) hx.2⟩, hy, My.asc_cut hx.1 _ _, Nat.le_trans (My.cutS_len _ _ _) hx.2⟩
  · rw [e]
    exact ⟨hx, e0, e0⟩
theorem ro_partition2 : ROM (fun x xs H Q => ∃ a b, x = .str a ∧ xs = [.str b] ∧ (b.length == 0) = false ∧ a.length ≤ sizeLine ∧
      ∀ p, H p = none → Q (.ref p) (upd H p (.tup [.str (Txt.partition a b).1, .str (Txt.partition a b).2.1, .str (Txt.partition a b).2.2]))) rS (rsC rS rs0) (rTu K (rsC rS (rsC rS (rsC rS rs0))))
    (fun a b => D.need ((b.1.length == 0) = false) (D.pure ⟨(Txt.partition a b.1).1, (Txt.partition a b.1).2.1, (Txt.partition a b.1).2.2, ()⟩)) := fun J I H v us a b Q P X sj s ha hb hk q =>
  ro_partition J I H v us a b Q P X sj s ha hb ⟨⟨hk.1, part_ok ha.2 (by obtain ⟨v2, r, e, h1, h2⟩ := hb; exact h1.2)⟩, hk.2⟩ q
theorem ro_dfO {f : List Int → Option Int} : ROK (My.rDf K f) (rsC (rL rI) rs0) (rsC (rO rI) rs0) (rO rI) (fun b d => D.pure ((f b.1).or d.1)) := fun J I H vs us b d Q P X sj s ⟨v, r, e, ⟨p, ws, e1, e2, l, pr⟩, h2⟩ ⟨v2, r2, e3, e4, h4⟩ hk q => by
  cases (show r = [] from h2)
  cases (show r2 = [] from h4)
  subst e1
  have e5 : (rO rI).rep I (My.orV v2 (f b.1)) ((f b.1).or d.1) := by
    cases f b.1 with
    | some n => exact (show V.int n ≠ .non ∧ V.int n = .int n from And.intro (fun e => by cases e) rfl)
    | none =>
      show (rO rI).rep I v2 d.1
      cases hd : d.1 with
      | none => rw [hd] at e4; exact e4
      | some n => rw [hd] at e4; exact e4
  exact ⟨p, b.1, v2, e, e3, by rw [← ints_of pr]; exact SqL.of (s _ _ e2), q _ _ I H hk (Gw.refl (sj.trans s)) e5⟩
end
end Lx
namespace My
open PySem PySem.Spec PyProof.Rows L2 TL
open Lx hiding ints_of paired_app paired_at Wd
def topS (i : Nat) : Stmt := PySem.Challenge.pw_pagelodge_k13_one_sign_otherwise.main.body.getD i (.Pass ⟨0, 0, 0, 0⟩)
abbrev s_is_made_of : Stmt := topS 10
theorem sc_is_made_of : FnScope ["text", "signs", "least", "most", "sign"] ["text", "signs", "least", "most"] (defScope s_is_made_of) := ⟨rfl, rfl, rfl, by decide +kernel, rfl, by decide +kernel, by decide +kernel⟩
abbrev s_is_name : Stmt := topS 11
theorem sc_is_name : FnScope ["text"] ["text"] (defScope s_is_name) := ⟨rfl, rfl, rfl, by decide +kernel, rfl, by decide +kernel, by decide +kernel⟩
abbrev s_is_figures : Stmt := topS 12
theorem sc_is_figures : FnScope ["text"] ["text"] (defScope s_is_figures) := ⟨rfl, rfl, rfl, by decide +kernel, rfl, by decide +kernel, by decide +kernel⟩
abbrev s_read_rule : Stmt := topS 22
theorem sc_read_rule : FnScope ["text", "words", "wrong"] ["text"] (defScope s_read_rule) := ⟨rfl, rfl, rfl, by decide +kernel, rfl, by decide +kernel, by decide +kernel⟩
abbrev s_read_wish : Stmt := topS 23
theorem sc_read_wish : FnScope ["text", "words", "wrong"] ["text"] (defScope s_read_wish) := ⟨rfl, rfl, rfl, by decide +kernel, rfl, by decide +kernel, by decide +kernel⟩
abbrev s_words_told : Stmt := topS 24
theorem sc_words_told : FnScope ["text", "piece"] ["text"] (defScope s_words_told) := ⟨rfl, rfl, rfl, by decide +kernel, rfl, by decide +kernel, by decide +kernel⟩
abbrev s_word_told : Stmt := topS 25
theorem sc_word_told : FnScope ["piece", "name", "blank", "figures"] ["piece"] (defScope s_word_told) := ⟨rfl, rfl, rfl, by decide +kernel, rfl, by decide +kernel, by decide +kernel⟩
abbrev s_first_wrong : Stmt := topS 26
theorem sc_first_wrong : FnScope ["words", "numbers", "truths", "at", "word"] ["words", "numbers", "truths"] (defScope s_first_wrong) := ⟨rfl, rfl, rfl, by decide +kernel, rfl, by decide +kernel, by decide +kernel⟩
abbrev s_suits_its_name : Stmt := topS 27
theorem sc_suits_its_name : FnScope ["word", "numbers", "truths", "name", "number"] ["word", "numbers", "truths"] (defScope s_suits_its_name) := ⟨rfl, rfl, rfl, by decide +kernel, rfl, by decide +kernel, by decide +kernel⟩
abbrev s_numbers_told : Stmt := topS 28
theorem sc_numbers_told : FnScope ["words", "name", "named", "number"] ["words", "name"] (defScope s_numbers_told) := ⟨rfl, rfl, rfl, by decide +kernel, rfl, by decide +kernel, by decide +kernel⟩
abbrev s_is_told : Stmt := topS 29
theorem sc_is_told : FnScope ["words", "name"] ["words", "name"] (defScope s_is_told) := ⟨rfl, rfl, rfl, by decide +kernel, rfl, by decide +kernel, by decide +kernel⟩
abbrev s_law_well : Stmt := topS 31
theorem sc_law_well : FnScope ["_law_cell"] ["_law_cell"] (defScope s_law_well) := ⟨rfl, rfl, rfl, by decide +kernel, rfl, by decide +kernel, by decide +kernel⟩
abbrev s_law_draw : Stmt := topS 32
theorem sc_law_draw : FnScope ["_law_well_here", "_law_many", "_law_found", "_law_number"] ["_law_well_here", "_law_many"] (defScope s_law_draw) := ⟨rfl, rfl, rfl, by decide +kernel, rfl, by decide +kernel, by decide +kernel⟩
abbrev s_law_piece : Stmt := topS 33
theorem sc_law_piece : FnScope ["_law_well_here", "_law_names", "_law_truths", "_law_number"] ["_law_well_here"] (defScope s_law_piece) := ⟨rfl, rfl, rfl, by decide +kernel, rfl, by decide +kernel, by decide +kernel⟩
abbrev s_law_near : Stmt := topS 34
theorem sc_law_near : FnScope ["_law_well_here", "_law_text", "_law_some", "_law_found", "_law_at", "_law_sign", "_law_word_here"] ["_law_well_here", "_law_text"] (defScope s_law_near) := ⟨rfl, rfl, rfl, by decide +kernel, rfl, by decide +kernel, by decide +kernel⟩
abbrev s_law_only : Stmt := topS 35
theorem sc_law_only : FnScope ["_law_text", "_law_signs", "_law_sign"] ["_law_text", "_law_signs"] (defScope s_law_only) := ⟨rfl, rfl, rfl, by decide +kernel, rfl, by decide +kernel, by decide +kernel⟩
abbrev s_law_word : Stmt := topS 36
theorem sc_law_word : FnScope ["_law_piece_here", "_law_numbers", "_law_truths", "_law_name", "_law_blank", "_law_figures"] ["_law_piece_here", "_law_numbers", "_law_truths"] (defScope s_law_word) := ⟨rfl, rfl, rfl, by decide +kernel, rfl, by decide +kernel, by decide +kernel⟩
abbrev s_law_words : Stmt := topS 37
theorem sc_law_words : FnScope ["_law_text", "_law_numbers", "_law_truths", "_law_piece_here"] ["_law_text", "_law_numbers", "_law_truths"] (defScope s_law_words) := ⟨rfl, rfl, rfl, by decide +kernel, rfl, by decide +kernel, by decide +kernel⟩
abbrev s_law_least : Stmt := topS 38
theorem sc_law_least : FnScope ["_law_words_here", "_law_name", "_law_plain", "_law_one", "_law_number"] ["_law_words_here", "_law_name", "_law_plain"] (defScope s_law_least) := ⟨rfl, rfl, rfl, by decide +kernel, rfl, by decide +kernel, by decide +kernel⟩
abbrev s_law_rule : Stmt := topS 39
theorem sc_law_rule : FnScope ["_law_text", "_law_truths", "_law_words_here", "_law_names", "_law_found", "_law_one", "_law_number", "_law_name"] ["_law_text"] (defScope s_law_rule) := ⟨rfl, rfl, rfl, by decide +kernel, rfl, by decide +kernel, by decide +kernel⟩
abbrev s_law_wish : Stmt := topS 40
theorem sc_law_wish : FnScope ["_law_text", "_law_truths", "_law_words_here", "_law_names", "_law_most", "_law_found", "_law_one", "_law_number", "_law_name"] ["_law_text"] (defScope s_law_wish) := ⟨rfl, rfl, rfl, by decide +kernel, rfl, by decide +kernel, by decide +kernel⟩
abbrev s_law_told_rule : Stmt := topS 41
theorem sc_law_told_rule : FnScope ["_law_text", "_law_one", "e"] ["_law_text"] (defScope s_law_told_rule) := ⟨rfl, rfl, rfl, by decide +kernel, rfl, by decide +kernel, by decide +kernel⟩
abbrev s_law_told_wish : Stmt := topS 42
theorem sc_law_told_wish : FnScope ["_law_text", "_law_one", "e"] ["_law_text"] (defScope s_law_told_wish) := ⟨rfl, rfl, rfl, by decide +kernel, rfl, by decide +kernel, by decide +kernel⟩
abbrev s_law : Stmt := topS 43
theorem sc_law : FnScope ["_law_script", "_law_cell", "_law_well_here", "_law_many", "_law_text", "_law_one", "_law_k"] ["_law_script"] (defScope s_law) := ⟨rfl, rfl, rfl, by decide +kernel, rfl, by decide +kernel, by decide +kernel⟩
abbrev s_NoRule_init : Stmt := inClass (topS 3) 0
theorem sc_NoRule_init : FnScope ["self", "at"] ["self", "at"] (defScope s_NoRule_init) := ⟨rfl, rfl, rfl, by decide +kernel, rfl, by decide +kernel, by decide +kernel⟩
abbrev s_NoWish_init : Stmt := inClass (topS 4) 0
theorem sc_NoWish_init : FnScope ["self", "at"] ["self", "at"] (defScope s_NoWish_init) := ⟨rfl, rfl, rfl, by decide +kernel, rfl, by decide +kernel, by decide +kernel⟩
abbrev s_Rule_init : Stmt := inClass (topS 19) 0
theorem sc_Rule_init : FnScope ["self", "keep", "worn", "alone", "anew", "own", "common", "never", "strict"] ["self", "keep", "worn", "alone", "anew", "own", "common", "never", "strict"] (defScope s_Rule_init) := ⟨rfl, rfl, rfl, by decide +kernel, rfl, by decide +kernel, by decide +kernel⟩
abbrev s_Wish_init : Stmt := inClass (topS 20) 0
theorem sc_Wish_init : FnScope ["self", "atmost", "left", "worn", "anew", "kept", "firm"] ["self", "atmost", "left", "worn", "anew", "kept", "firm"] (defScope s_Wish_init) := ⟨rfl, rfl, rfl, by decide +kernel, rfl, by decide +kernel, by decide +kernel⟩
structure Def (K : PySem.W.Frag) (mg : Str → Option Value) (x : Str) (st : Stmt) (ps : List Str) (f : Addr) (fd : FuncData) : Prop where
  F : Fun K x x st f fd
  b : Binds K fd ps []
  g : mg x = some (.ref f)
structure DefM (K : PySem.W.Frag) (x qual : Str) (st : Stmt) (ps : List Str) (f : Addr) (fd : FuncData) : Prop where
  F : Fun K x qual st f fd
  b : Binds K fd ps []
structure DefK (K : PySem.W.Frag) (x qual : Str) (st : Stmt) (f : Addr) (fd : FuncData) : Prop where
  F : Fun K x qual st f fd
structure DefG (K : PySem.W.Frag) (mg : Str → Option Value) (x qual : Str) (st : Stmt) (f : Addr) (fd : FuncData) : Prop where
  F : Fun K x qual st f fd
  g : mg x = some (.ref f)
structure Txt (K : PySem.W.Frag) (mg : Str → Option Value) where
  f_is_made_of : Addr
  fd_is_made_of : FuncData
  d_is_made_of : Def K mg "is_made_of" s_is_made_of ["text", "signs", "least", "most"] f_is_made_of fd_is_made_of
  f_is_name : Addr
  fd_is_name : FuncData
  d_is_name : Def K mg "is_name" s_is_name ["text"] f_is_name fd_is_name
  f_is_figures : Addr
  fd_is_figures : FuncData
  d_is_figures : Def K mg "is_figures" s_is_figures ["text"] f_is_figures fd_is_figures
  f_read_rule : Addr
  fd_read_rule : FuncData
  d_read_rule : Def K mg "read_rule" s_read_rule ["text"] f_read_rule fd_read_rule
  f_read_wish : Addr
  fd_read_wish : FuncData
  d_read_wish : Def K mg "read_wish" s_read_wish ["text"] f_read_wish fd_read_wish
  f_words_told : Addr
  fd_words_told : FuncData
  d_words_told : Def K mg "words_told" s_words_told ["text"] f_words_told fd_words_told
  f_word_told : Addr
  fd_word_told : FuncData
  d_word_told : Def K mg "word_told" s_word_told ["piece"] f_word_told fd_word_told
  f_first_wrong : Addr
  fd_first_wrong : FuncData
  d_first_wrong : Def K mg "first_wrong" s_first_wrong ["words", "numbers", "truths"] f_first_wrong fd_first_wrong
  f_suits_its_name : Addr
  fd_suits_its_name : FuncData
  d_suits_its_name : Def K mg "suits_its_name" s_suits_its_name ["word", "numbers", "truths"] f_suits_its_name fd_suits_its_name
  f_numbers_told : Addr
  fd_numbers_told : FuncData
  d_numbers_told : Def K mg "numbers_told" s_numbers_told ["words", "name"] f_numbers_told fd_numbers_told
  f_is_told : Addr
  fd_is_told : FuncData
  d_is_told : Def K mg "is_told" s_is_told ["words", "name"] f_is_told fd_is_told
  f_law_well : Addr
  fd_law_well : FuncData
  d_law_well : Def K mg "_law_well" s_law_well ["_law_cell"] f_law_well fd_law_well
  f_law_draw : Addr
  fd_law_draw : FuncData
  d_law_draw : Def K mg "_law_draw" s_law_draw ["_law_well_here", "_law_many"] f_law_draw fd_law_draw
  f_law_piece : Addr
  fd_law_piece : FuncData
  d_law_piece : Def K mg "_law_piece" s_law_piece ["_law_well_here"] f_law_piece fd_law_piece
  f_law_near : Addr
  fd_law_near : FuncData
  d_law_near : Def K mg "_law_near" s_law_near ["_law_well_here", "_law_text"] f_law_near fd_law_near
  f_law_only : Addr
  fd_law_only : FuncData
  d_law_only : Def K mg "_law_only" s_law_only ["_law_text", "_law_signs"] f_law_only fd_law_only
  f_law_word : Addr
  fd_law_word : FuncData
  d_law_word : Def K mg "_law_word" s_law_word ["_law_piece_here", "_law_numbers", "_law_truths"] f_law_word fd_law_word
  f_law_words : Addr
  fd_law_words : FuncData
  d_law_words : Def K mg "_law_words" s_law_words ["_law_text", "_law_numbers", "_law_truths"] f_law_words fd_law_words
  f_law_least : Addr
  fd_law_least : FuncData
  d_law_least : Def K mg "_law_least" s_law_least ["_law_words_here", "_law_name", "_law_plain"] f_law_least fd_law_least
  f_law_rule : Addr
  fd_law_rule : FuncData
  d_law_rule : Def K mg "_law_rule" s_law_rule ["_law_text"] f_law_rule fd_law_rule
  f_law_wish : Addr
  fd_law_wish : FuncData
  d_law_wish : Def K mg "_law_wish" s_law_wish ["_law_text"] f_law_wish fd_law_wish
  f_law_told_rule : Addr
  fd_law_told_rule : FuncData
  d_law_told_rule : Def K mg "_law_told_rule" s_law_told_rule ["_law_text"] f_law_told_rule fd_law_told_rule
  f_law_told_wish : Addr
  fd_law_told_wish : FuncData
  d_law_told_wish : Def K mg "_law_told_wish" s_law_told_wish ["_law_text"] f_law_told_wish fd_law_told_wish
  f_law : Addr
  fd_law : FuncData
  d_law : Def K mg "law" s_law ["_law_script"] f_law fd_law
  f_NoRule_init : Addr
  fd_NoRule_init : FuncData
  d_NoRule_init : DefM K "__init__" "NoRule.__init__" s_NoRule_init ["self", "at"] f_NoRule_init fd_NoRule_init
  f_NoWish_init : Addr
  fd_NoWish_init : FuncData
  d_NoWish_init : DefM K "__init__" "NoWish.__init__" s_NoWish_init ["self", "at"] f_NoWish_init fd_NoWish_init
  f_Rule_init : Addr
  fd_Rule_init : FuncData
  d_Rule_init : DefK K "__init__" "Rule.__init__" s_Rule_init  f_Rule_init fd_Rule_init
  f_Wish_init : Addr
  fd_Wish_init : FuncData
  d_Wish_init : DefK K "__init__" "Wish.__init__" s_Wish_init  f_Wish_init fd_Wish_init
  C_NoRule : Addr
  g_NoRule : mg "NoRule" = some (.ref C_NoRule)
  C_NoWish : Addr
  g_NoWish : mg "NoWish" = some (.ref C_NoWish)
  C_PageError : Addr
  g_PageError : mg "PageError" = some (.ref C_PageError)
  ox_NoRule : OexC K C_NoRule
  na_NoRule : PySem.W.findIn K (.ref C_NoRule) "at" = some none
  ii_NoRule : PySem.W.findIn K (.ref C_NoRule) "__init__" = some (some (.ref f_NoRule_init))
  ti_NoRule : PySem.W.typeIn K (.ref f_NoRule_init) = some (.type "function")
  ec_NoRule : ExcC K C_NoRule
  xf_NoRule : XfC K C_NoRule
  em_NoRule : PySem.W.exmOne K (.ref C_NoRule) (.ref C_NoRule) = some true
  ox_NoWish : OexC K C_NoWish
  na_NoWish : PySem.W.findIn K (.ref C_NoWish) "at" = some none
  ii_NoWish : PySem.W.findIn K (.ref C_NoWish) "__init__" = some (some (.ref f_NoWish_init))
  ti_NoWish : PySem.W.typeIn K (.ref f_NoWish_init) = some (.type "function")
  ec_NoWish : ExcC K C_NoWish
  xf_NoWish : XfC K C_NoWish
  em_NoWish : PySem.W.exmOne K (.ref C_NoWish) (.ref C_NoWish) = some true
  C_Rule : Addr
  g_Rule : mg "Rule" = some (.ref C_Rule)
  cl_Rule : Cls K C_Rule
  mk_Rule : Mk K C_Rule f_Rule_init
  n_Rule_keep : NoAttr K C_Rule "keep"
  n_Rule_worn : NoAttr K C_Rule "worn"
  n_Rule_alone : NoAttr K C_Rule "alone"
  n_Rule_anew : NoAttr K C_Rule "anew"
  n_Rule_own : NoAttr K C_Rule "own"
  n_Rule_common : NoAttr K C_Rule "common"
  n_Rule_never : NoAttr K C_Rule "never"
  n_Rule_strict : NoAttr K C_Rule "strict"
  C_Wish : Addr
  g_Wish : mg "Wish" = some (.ref C_Wish)
  cl_Wish : Cls K C_Wish
  mk_Wish : Mk K C_Wish f_Wish_init
  n_Wish_atmost : NoAttr K C_Wish "atmost"
  n_Wish_left : NoAttr K C_Wish "left"
  n_Wish_worn : NoAttr K C_Wish "worn"
  n_Wish_anew : NoAttr K C_Wish "anew"
  n_Wish_kept : NoAttr K C_Wish "kept"
  n_Wish_firm : NoAttr K C_Wish "firm"
  kb_0 : ∃ gg, KBn K fd_Rule_init ["self", "keep", "worn", "alone", "anew", "own", "common", "never", "strict"] 1 ["keep", "worn", "alone", "anew", "own", "common", "never", "strict"] gg (fun vs zs => vs ++ pickKw [.inr 0, .inr 1, .inr 2, .inr 3, .inr 4, .inr 5, .inr 6, .inr 7] (([] : List (Str × V)).map (·.2)) zs)
  kb_1 : ∃ gg, KBn K fd_Wish_init ["self", "atmost", "left", "worn", "anew", "kept", "firm"] 1 ["atmost", "left", "worn", "anew", "kept", "firm"] gg (fun vs zs => vs ++ pickKw [.inr 0, .inr 1, .inr 2, .inr 3, .inr 4, .inr 5] (([] : List (Str × V)).map (·.2)) zs)
  t_LETTERS : Tok
  g_LETTERS : mg "LETTERS" = some (.str "abcdefghijklmnopqrstuvwxyz" t_LETTERS)
  t_FIGURES : Tok
  g_FIGURES : mg "FIGURES" = some (.str "0123456789" t_FIGURES)
  t_LONGEST_NAME : Tok
  g_LONGEST_NAME : mg "LONGEST_NAME" = some (.int 8 t_LONGEST_NAME)
  t_MOST_FIGURES : Tok
  g_MOST_FIGURES : mg "MOST_FIGURES" = some (.int 60 t_MOST_FIGURES)
  a_RULE_NUMBERS : Addr
  g_RULE_NUMBERS : mg "RULE_NUMBERS" = some (.ref a_RULE_NUMBERS)
  q_RULE_NUMBERS : ∀ H : Hp, SqT K H a_RULE_NUMBERS ([.str "keep", .str "worn", .str "alone"] : List V)
  a_RULE_TRUTHS : Addr
  g_RULE_TRUTHS : mg "RULE_TRUTHS" = some (.ref a_RULE_TRUTHS)
  q_RULE_TRUTHS : ∀ H : Hp, SqT K H a_RULE_TRUTHS ([.str "anew", .str "own", .str "common", .str "never", .str "strict"] : List V)
  a_WISH_NUMBERS : Addr
  g_WISH_NUMBERS : mg "WISH_NUMBERS" = some (.ref a_WISH_NUMBERS)
  q_WISH_NUMBERS : ∀ H : Hp, SqT K H a_WISH_NUMBERS ([.str "atmost", .str "left", .str "worn"] : List V)
  a_WISH_TRUTHS : Addr
  g_WISH_TRUTHS : mg "WISH_TRUTHS" = some (.ref a_WISH_TRUTHS)
  q_WISH_TRUTHS : ∀ H : Hp, SqT K H a_WISH_TRUTHS ([.str "anew", .str "kept", .str "firm"] : List V)
  m_all : mg "all" = none
  m_enumerate : mg "enumerate" = none
  m_int : mg "int" = none
  m_isinstance : mg "isinstance" = none
  m_len : mg "len" = none
  m_max : mg "max" = none
  m_min : mg "min" = none
  m_range : mg "range" = none
  m_str : mg "str" = none
/-! ### what is asked about -/
inductive Thing (H : Hp) : V → Prop where
  | str (z : Str) (h : z.length ≤ 20000) : Thing H (.str z)
  | non : Thing H .non
  | bl (b : Bool) : Thing H (.bl b)
  | int (i : Int) : Thing H (.int i)
  | lst {p : Addr} {xs : List V} (h : H p = some (.lst xs)) : Thing H (.ref p)
  | tup {p : Addr} {xs : List V} (h : H p = some (.tup xs)) : Thing H (.ref p)
  | dK {p : Addr} {xs : List (Key × V)} (h : H p = some (.dK xs)) : Thing H (.ref p)
theorem Thing.mono {H H' : Hp} {v : V} (e : Same H H') (t : Thing H v) : Thing H' v := by
  cases t with
  | str z h => exact .str z h
  | non => exact .non
  | bl b => exact .bl b
  | int i => exact .int i
  | lst h => exact .lst (e _ _ h)
  | tup h => exact .tup (e _ _ h)
  | dK h => exact .dK (e _ _ h)
def ans (f : Str → Bool) : V → Bool
  | .str z => f z
  | _ => false
theorem Thing.two {K : PySem.W.Frag} {H : Hp} {v : V} (t : Thing H v) : (∃ z, v = .str z ∧ z.length ≤ 20000) ∨ ∃ n : String, TyX K H v (.type n) ∧ kitB n "str" = some false ∧ ∀ f, ans f v = false := by
  cases t with
  | str z h => exact .inl ⟨z, rfl, h⟩
  | non => exact .inr ⟨_, .base .non, by decide +kernel, fun _ => rfl⟩
  | bl b => exact .inr ⟨_, .base (.bl b), by decide +kernel, fun _ => rfl⟩
  | int i => exact .inr ⟨_, .base (.int i), by decide +kernel, fun _ => rfl⟩
  | lst h => exact .inr ⟨_, .base (.lst h), by decide +kernel, fun _ => rfl⟩
  | tup h => exact .inr ⟨_, .base (.tup h), by decide +kernel, fun _ => rfl⟩
  | dK h => exact .inr ⟨_, .base (.dK h), by decide +kernel, fun _ => rfl⟩
theorem kit_str {K : PySem.W.Frag} : PySem.W.kitOne K (.type "str") (.type "str") = some true := kit_ty (by decide +kernel)
/-! ### the mathematics: what each word is -/
def inB (sg z : Str) : Bool := z.cps.toList.all fun c => decide (c ∈ sg.cps.toList)
def ofB (sg : Str) (lo hi : Int) (z : Str) : Bool := (decide (lo ≤ z.length) && decide ((z.length : Int) ≤ hi)) && inB sg z
def nought (z : Str) : Bool := decide (z = "0") || !decide (z.cps.toList.head? = some 48)
def figB (z : Str) : Bool := ofB "0123456789" 1 60 z && nought z

/-! ### rules and wishes: what they bear -/
structure RuleR where
  keep : Int
  worn : Int
  alone : Int
  anew : Bool
  own : Bool
  common : Bool
  never : Bool
  strict : Bool
structure WishR where
  atmost : Option Int
  left : Int
  worn : Int
  anew : Bool
  kept : Bool
  firm : Bool
def fR (r : RuleR) : List (Str × V) := putF "strict" (.bl r.strict) (putF "never" (.bl r.never) (putF "common" (.bl r.common) (putF "own" (.bl r.own) (putF "anew" (.bl r.anew) (putF "alone" (.int r.alone) (putF "worn" (.int r.worn) (putF "keep" (.int r.keep) [])))))))
def fW (r : WishR) : List (Str × V) := putF "firm" (.bl r.firm) (putF "kept" (.bl r.kept) (putF "anew" (.bl r.anew) (putF "worn" (.int r.worn) (putF "left" (.int r.left) (putF "atmost" (oV r.atmost) [])))))
theorem fR_keep (r : RuleR) : (fR r).lookup ("keep" : Str) = some (.int r.keep) := by unfold fR; (repeat (rw [lookup_putF, if_neg (by decide +kernel)])); rw [lookup_putF, if_pos rfl]
theorem fR_worn (r : RuleR) : (fR r).lookup ("worn" : Str) = some (.int r.worn) := by unfold fR; (repeat (rw [lookup_putF, if_neg (by decide +kernel)])); rw [lookup_putF, if_pos rfl]
theorem fR_alone (r : RuleR) : (fR r).lookup ("alone" : Str) = some (.int r.alone) := by unfold fR; (repeat (rw [lookup_putF, if_neg (by decide +kernel)])); rw [lookup_putF, if_pos rfl]
theorem fR_anew (r : RuleR) : (fR r).lookup ("anew" : Str) = some (.bl r.anew) := by unfold fR; (repeat (rw [lookup_putF, if_neg (by decide +kernel)])); rw [lookup_putF, if_pos rfl]
theorem fR_own (r : RuleR) : (fR r).lookup ("own" : Str) = some (.bl r.own) := by unfold fR; (repeat (rw [lookup_putF, if_neg (by decide +kernel)])); rw [lookup_putF, if_pos rfl]
theorem fR_common (r : RuleR) : (fR r).lookup ("common" : Str) = some (.bl r.common) := by unfold fR; (repeat (rw [lookup_putF, if_neg (by decide +kernel)])); rw [lookup_putF, if_pos rfl]
theorem fR_never (r : RuleR) : (fR r).lookup ("never" : Str) = some (.bl r.never) := by unfold fR; (repeat (rw [lookup_putF, if_neg (by decide +kernel)])); rw [lookup_putF, if_pos rfl]
theorem fR_strict (r : RuleR) : (fR r).lookup ("strict" : Str) = some (.bl r.strict) := by unfold fR; rw [lookup_putF, if_pos rfl]
theorem fW_atmost (r : WishR) : (fW r).lookup ("atmost" : Str) = some (oV r.atmost) := by unfold fW; (repeat (rw [lookup_putF, if_neg (by decide +kernel)])); rw [lookup_putF, if_pos rfl]
theorem fW_left (r : WishR) : (fW r).lookup ("left" : Str) = some (.int r.left) := by unfold fW; (repeat (rw [lookup_putF, if_neg (by decide +kernel)])); rw [lookup_putF, if_pos rfl]
theorem fW_worn (r : WishR) : (fW r).lookup ("worn" : Str) = some (.int r.worn) := by unfold fW; (repeat (rw [lookup_putF, if_neg (by decide +kernel)])); rw [lookup_putF, if_pos rfl]
theorem fW_anew (r : WishR) : (fW r).lookup ("anew" : Str) = some (.bl r.anew) := by unfold fW; (repeat (rw [lookup_putF, if_neg (by decide +kernel)])); rw [lookup_putF, if_pos rfl]
theorem fW_kept (r : WishR) : (fW r).lookup ("kept" : Str) = some (.bl r.kept) := by unfold fW; (repeat (rw [lookup_putF, if_neg (by decide +kernel)])); rw [lookup_putF, if_pos rfl]
theorem fW_firm (r : WishR) : (fW r).lookup ("firm" : Str) = some (.bl r.firm) := by unfold fW; rw [lookup_putF, if_pos rfl]
def RuleAt (C : Addr) (H : Hp) (p : Addr) (r : RuleR) : Prop := ∃ dx, H p = some (.ins C dx (fR r))
def WishAt (C : Addr) (H : Hp) (p : Addr) (r : WishR) : Prop := ∃ dx, H p = some (.ins C dx (fW r))
theorem RuleAt.mono {C : Addr} {H H' : Hp} {p : Addr} {r : RuleR} (s : Same H H') : RuleAt C H p r → RuleAt C H' p r := fun ⟨dx, h⟩ => ⟨dx, s _ _ h⟩
theorem WishAt.mono {C : Addr} {H H' : Hp} {p : Addr} {r : WishR} (s : Same H H') : WishAt C H p r → WishAt C H' p r := fun ⟨dx, h⟩ => ⟨dx, s _ _ h⟩
theorem ins_ne {H : Hp} {W p C dx : Addr} {fs : List (Str × V)} (hI : IsW H W) (h : H p = some (.ins C dx fs)) : p ≠ W := by
  obtain ⟨a, b, c, hw⟩ := hI
  rintro rfl
  rw [hw] at h
  cases h
theorem RuleAt.wx {C W : Addr} {H H' : Hp} {p : Addr} {r : RuleR} (hI : IsW H W) (x : Wx W H H') : RuleAt C H p r → RuleAt C H' p r := fun ⟨dx, h⟩ => ⟨dx, x.keep _ _ (ins_ne hI h) h⟩
theorem WishAt.wx {C W : Addr} {H H' : Hp} {p : Addr} {r : WishR} (hI : IsW H W) (x : Wx W H H') : WishAt C H p r → WishAt C H' p r := fun ⟨dx, h⟩ => ⟨dx, x.keep _ _ (ins_ne hI h) h⟩
def spRInit (C : Addr) : Sp := fun vs H Q _ => ∃ (p dx : Addr) (r : RuleR), vs = [.ref p, .int r.keep, .int r.worn, .int r.alone, .bl r.anew, .bl r.own, .bl r.common, .bl r.never, .bl r.strict] ∧ H p = some (.ins C dx []) ∧ Q .non (upd H p (.ins C dx (fR r)))
def spWInit (C : Addr) : Sp := fun vs H Q _ => ∃ (p dx : Addr) (r : WishR), vs = [.ref p, oV r.atmost, .int r.left, .int r.worn, .bl r.anew, .bl r.kept, .bl r.firm] ∧ H p = some (.ins C dx []) ∧ Q .non (upd H p (.ins C dx (fW r)))

/-! ### words of a rule or a wish -/
abbrev Wd := Str × Option Int
def nameB (z : Str) : Bool := ofB "abcdefghijklmnopqrstuvwxyz" 1 8 z
theorem u65 {k : Nat} {A : Around} (hr : Room k A) : A.units + 65 < cLine := by
  have := hr.un
  omega
theorem inB_digits {z : Str} (h : inB "0123456789" z = true) : NumText.AllDigits z.cps.toList := by
  intro c hc
  unfold inB at h
  have := List.all_eq_true.mp h c hc
  exact (by decide : ∀ c ∈ ("0123456789" : Str).cps.toList, 48 ≤ c ∧ c ≤ 57) c (of_decide_eq_true this)
theorem fig_int {z : Str} (h : figB z = true) : ∃ n : Nat, intText? z = some (n : Int) ∧ z.length ≤ 60 := by
  unfold figB ofB at h
  simp only [Bool.and_eq_true, decide_eq_true_eq] at h
  obtain ⟨⟨⟨h1, h2⟩, h3⟩, _⟩ := h
  refine ⟨_, intText_digits (inB_digits h3) (fun e => ?_) (by omega), by omega⟩
  have := len_tl z
  have e' : z.cps.toList.length = 0 := by rw [e]; rfl
  have h1' : (1 : Int) ≤ (z.length : Int) := h1
  omega
/-- the word that a piece tells -/
def wordT (z : Str) : Option Wd :=
  if nameB (Txt.partition z " ").1 = true then
    (if V.str (Txt.partition z " ").2.1 = V.str "" then some ((Txt.partition z " ").1, none) else if figB (Txt.partition z " ").2.2 = true then some ((Txt.partition z " ").1, intText? (Txt.partition z " ").2.2) else none)
  else none
def wordsT (z : Str) : List (Option Wd) := if V.str (Txt.stripChars z " ") = V.str "" then [] else (Txt.split z ",").map fun p => wordT (Txt.stripChars p " ")
def suitB (ns ts : List Str) (d : Wd) : Bool := if decide (d.1 ∈ ns) = true then d.2.isSome else (!decide (d.1 ∈ ts) || d.2.isNone)
def badB (ns ts : List Str) : Option Wd → Bool
  | none => true
  | some d => !suitB ns ts d
def wrongAt (ns ts : List Str) (ws : List (Option Wd)) : Option Nat := ws.findIdx? (badB ns ts)
def numsT (name : Str) (ds : List Wd) : List (Option Int) := (ds.filter fun d => decide (d.1 = name)).map (·.2)
def toldT (name : Str) (ds : List Wd) : Bool := ds.any fun d => decide (d.1 = name) && d.2.isNone
def PWd (H : Hp) (v : V) : Option Wd → Prop
  | none => v = .non
  | some d => ∃ t : Addr, v = .ref t ∧ H t = some (.tup [.str d.1, oV d.2])
theorem PWd.mono {H H' : Hp} {v : V} {w : Option Wd} (s : Same H H') (h : PWd H v w) : PWd H' v w := by
  cases w with
  | none => exact h
  | some d =>
    obtain ⟨t, e, h⟩ := h
    exact ⟨t, e, s _ _ h⟩
theorem pwd_mono {H H' : Hp} {xs : List V} {ws : List (Option Wd)} (s : Same H H') (h : Paired (PWd H) xs ws) : Paired (PWd H') xs ws := Paired.mono (fun _ _ => PWd.mono s) h
theorem pwd_upd {H : Hp} {D : Addr} {zs : List V} {o : HO} {xs : List V} {ws : List (Option Wd)} (hD : H D = some (.lst zs)) (h : Paired (PWd H) xs ws) : Paired (PWd (upd H D o)) xs ws := Paired.mono (fun v w h => by
  cases w with
  | none => exact h
  | some d =>
    obtain ⟨t, e, h⟩ := h
    refine ⟨t, e, ?_⟩
    rw [upd_ne]
    · exact h
    · intro z
      rw [z, hD] at h
      cases h) h
theorem paired_app {α β : Type} {R : α → β → Prop} : ∀ {a : List α} {b : List β} {c : List α} {d : List β}, Paired R a b → Paired R c d → Paired R (a ++ c) (b ++ d)
  | _, _, _, _, .nil, h => h
  | _, _, _, _, .cons x t, h => .cons x (paired_app t h)
theorem paired_at {α β : Type} {R : α → β → Prop} : ∀ {a : List α} {b : List β} {i : Nat} {x : α}, Paired R a b → a[i]? = some x → ∃ y, b[i]? = some y ∧ R x y
  | _, _, _, _, .nil, h => by simp at h
  | _, _, 0, _, .cons r t, h => by
    cases h
    exact ⟨_, rfl, r⟩
  | _, _, n + 1, _, .cons r t, h => by
    obtain ⟨y, h1, h2⟩ := paired_at (i := n) t h
    exact ⟨y, h1, h2⟩
/-- words as data -/
def wdD (d : Wd) : PyData := .tuple [.str d.1, od d.2]
theorem dp_wds {K : PySem.W.Frag} {H : Hp} : ∀ {xs : List V} {ds : List Wd}, Paired (PWd H) xs (ds.map some) → DpAll K H xs (ds.map wdD)
  | _, [], .nil => .nil
  | _, d :: ds, .cons h t => by
    obtain ⟨a, rfl, h⟩ := h
    exact .cons (.tup (SqT.of h) (.cons (.str _) (.cons (dp_od _) .nil))) (dp_wds t)
theorem od_lay (x : Option Int) : PyData.canLay0 (od x) = true := by cases x <;> simp [od, PyData.canLay0]
theorem od_depth (x : Option Int) : PyData.depth (od x) = 0 := by cases x <;> simp [od, PyData.depth]
theorem lay_wds : ∀ ds : List Wd, (∀ d ∈ ds, Asc d.1) → PyData.canLayAll0 (ds.map wdD) = true
  | [], _ => rfl
  | d :: r, h => by simp [PyData.canLayAll0, PyData.canLay0, wdD, od_lay, ok_asc (h d (List.mem_cons_self ..)), lay_wds r fun y hy => h y (List.mem_cons_of_mem _ hy)]
theorem depth_wds : ∀ ds : List Wd, PyData.depthAll (ds.map wdD) ≤ 1
  | [] => Nat.zero_le _
  | d :: r => by
    have := depth_wds r
    simp only [List.map_cons, PyData.depthAll, wdD, PyData.depth, od_depth]
    show max _ _ ≤ 1
    have e : max 0 (max 0 0) + 1 = 1 := rfl
    omega
theorem shaped_wds {ds : List Wd} (h : ∀ d ∈ ds, Asc d.1) : SeqAt.shaped (.list (ds.map wdD)) = true := by
  have := depth_wds ds
  simp only [SeqAt.shaped, PyData.canLay0, PyData.depth, lay_wds ds h, Bool.true_and]
  exact decide_eq_true (by omega)
theorem any_wds (name : Str) (ds : List Wd) : ((ds.map wdD).any fun z => PyData.eqv z (.tuple [.str name, .none])) = toldT name ds := by
  unfold toldT
  rw [List.any_map]
  congr 1
  funext d
  obtain ⟨a, b⟩ := d
  cases b with
  | none =>
    show PyData.eqv (.tuple [.str a, .none]) (.tuple [.str name, .none]) = _
    simp [PyData.eqv, PyData.eqvAll]
    rw [Bool.eq_iff_iff]
    simp
  | some n =>
    show PyData.eqv (.tuple [.str a, .int n]) (.tuple [.str name, .none]) = _
    simp [PyData.eqv, PyData.eqvAll]
theorem name_asc {z : Str} (h : nameB z = true) : Asc z := by
  intro c hc
  unfold nameB ofB inB at h
  simp only [Bool.and_eq_true] at h
  have := List.all_eq_true.mp h.2 c hc
  exact (by decide : ∀ c ∈ ("abcdefghijklmnopqrstuvwxyz" : Str).cps.toList, c < 128) c (of_decide_eq_true this)
theorem word_name {z : Str} {d : Wd} (h : wordT z = some d) : nameB d.1 = true := by
  unfold wordT at h
  split at h
  · rename_i e
    split at h
    · cases h
      exact e
    · split at h
      · cases h
        exact e
      · cases h
  · cases h
/-- the words of a text, where none is wrong -/
theorem words_all {ns ts : List Str} {ws : List (Option Wd)} (h : wrongAt ns ts ws = none) : ∃ ds : List Wd, ws = ds.map some ∧ ∀ d ∈ ds, suitB ns ts d = true := by
  have h' := List.findIdx?_eq_none_iff.mp h
  clear h
  induction ws with
  | nil => exact ⟨[], rfl, fun _ z => nomatch z⟩
  | cons w r ih =>
    obtain ⟨ds, e, hd⟩ := ih fun x hx => h' x (List.mem_cons_of_mem _ hx)
    have hw := h' w (List.mem_cons_self ..)
    cases w with
    | none => cases hw
    | some d =>
      refine ⟨d :: ds, by rw [e]; rfl, fun x hx => ?_⟩
      rcases List.mem_cons.mp hx with rfl | hx
      · simpa [badB] using hw
      · exact hd x hx
theorem words_names {z : Str} {ds : List Wd} (h : wordsT z = ds.map some) : ∀ d ∈ ds, nameB d.1 = true := fun d hd => by
  have h1 : some d ∈ wordsT z := by
    rw [h]
    exact List.mem_map.mpr ⟨d, hd, rfl⟩
  unfold wordsT at h1
  split at h1
  · cases h1
  · obtain ⟨p, _, e⟩ := List.mem_map.mp h1
    exact word_name e
theorem nums_some {ns ts : List Str} {ds : List Wd} {name : Str} (hd : ∀ d ∈ ds, suitB ns ts d = true) (hn : name ∈ ns) : ∃ is : List Int, numsT name ds = is.map some := by
  unfold numsT
  induction ds with
  | nil => exact ⟨[], rfl⟩
  | cons d r ih =>
    obtain ⟨is, e⟩ := ih fun x hx => hd x (List.mem_cons_of_mem _ hx)
    by_cases h : d.1 = name
    · have h1 := hd d (List.mem_cons_self ..)
      unfold suitB at h1
      rw [h, if_pos (decide_eq_true hn)] at h1
      obtain ⟨i, hi⟩ := Option.isSome_iff_exists.mp h1
      refine ⟨i :: is, ?_⟩
      rw [List.filter_cons, if_pos (decide_eq_true h), List.map_cons, e, hi]
      rfl
    · refine ⟨is, ?_⟩
      rw [List.filter_cons, if_neg (by rw [decide_eq_false h]; exact Bool.false_ne_true), e]
def intsT (name : Str) (ds : List Wd) : List Int := (numsT name ds).filterMap id
theorem ints_of {name : Str} {ds : List Wd} {is : List Int} (h : numsT name ds = is.map some) : intsT name ds = is := by
  unfold intsT
  rw [h, List.filterMap_map]
  show is.filterMap some = is
  exact List.filterMap_some
def ruleOf (ds : List Wd) : RuleR := ⟨(minI (intsT "keep" ds)).getD 0, (minI (intsT "worn" ds)).getD 0, (minI (intsT "alone" ds)).getD 0, toldT "anew" ds, toldT "own" ds, toldT "common" ds, toldT "never" ds, toldT "strict" ds⟩
def wishOf (ds : List Wd) : WishR := ⟨minI (intsT "atmost" ds), (maxI (intsT "left" ds)).getD 0, (minI (intsT "worn" ds)).getD 0, toldT "anew" ds, toldT "kept" ds, toldT "firm" ds⟩
def rNs : List Str := ["keep", "worn", "alone"]
def rTs : List Str := ["anew", "own", "common", "never", "strict"]
def wNs : List Str := ["atmost", "left", "worn"]
def wTs : List Str := ["anew", "kept", "firm"]

section
variable {P : Program} {w : World} {K : PySem.W.Frag} {mg : Str → Option Value} {base : Heap}
def spMade : Sp := fun vs H Q _ => ∃ (v : V) (sg : Str) (lo hi : Int), vs = [v, .str sg, .int lo, .int hi] ∧ Thing H v ∧ ∀ H', Same H H' → Q (.bl (ans (ofB sg lo hi) v)) H'
theorem ok_is_made_of (T : Txt K mg) : FnOk P w K mg base CX0 1 T.f_is_made_of T.fd_is_made_of ["text", "signs", "least", "most"] spMade := by
  refine T.d_is_made_of.F.ok sc_is_made_of (fun vs H Q E h => ?_) (fun cdv A outer s H vs Q E hr h => ?_)
  · obtain ⟨v, sg, lo, hi, rfl, _⟩ := h
    rfl
  · obtain ⟨v, sg, lo, hi, rfl, th, q⟩ := h
    refine ⟨_, (pss_cons (ps_if (pt_not (pt_val (pe_callB (isiK K rfl) (by rfl) T.m_isinstance (by decide +kernel) (pa_cons (pv 0) (pa_cons (pe_bltn (v := .ty "str") (by rfl) T.m_str (by decide +kernel) rfl) pa_nil)))))
      (pss_one (ps_ret pe_bl))
      pss_nil)
      (pss_cons (ps_if (PW.pt (pw_or (pt_cmpR op_lt (pe_callB call_len_str (by rfl) T.m_len (by decide +kernel) (pa_cons (pv 0) pa_nil)) (pv 2) (nomark _)) (pw_or1 (pt_cmpR op_gt (pe_callB call_len_str (by rfl) T.m_len (by decide +kernel) (pa_cons (pv 0) pa_nil)) (pv 3) (nomark _)))))
      (pss_one (ps_ret pe_bl))
      pss_nil)
      (pss_one (ps_ret (pe_callB (allK K rfl rfl) (by rfl) T.m_all (by decide +kernel) (pa_cons (pe_lc (own := [("sign", 4)]) (g := gName 4) (tt := tYes) (by rfl) sc_is_made_of.nd (pi_str (pv 0)) (blkOk_by (own := [("sign", 4)]) (N := ["text", "signs", "least", "most", "sign"]) (sc := defScope s_is_made_of) (by decide +kernel)) (fun _ _ _ _ _ => (pg_name (i := 4) sc_is_made_of.nd rfl (Or.inl rfl))) (fun _ _ _ _ _ => pts_nil) (fun _ _ _ _ _ => (pe_cmpR op_in_sign (pv 4) (pv 1) rfl))) pa_nil)))))), ?_⟩
    rcases th.two (K := K) with ⟨z, rfl, hz⟩ | ⟨n, ty, nk, ef⟩
    · refine ⟨.str z, rfl, .str z, .ty "str", _, _, true, rfl, .ty "str", .base (.str z), kit_str, true, rfl, ?_⟩
      refine ⟨.str z, rfl, z, rfl, szl (by omega), .int lo, rfl, _, lo, rfl, rfl, _, rfl, ite2 (fun e => ?_) (fun e => ?_)⟩
      · have h1 : (z.length : Int) < lo := of_decide_eq_true e
        have h2 := q H (Same.refl H)
        have h3 : ans (ofB sg lo hi) (.str z) = false := by
          show ((decide (lo ≤ (z.length : Int)) && decide ((z.length : Int) ≤ hi)) && inB sg z) = false
          rw [decide_eq_false (by omega)]
          rfl
        rw [h3] at h2
        exact h2
      · have h1 : ¬ (z.length : Int) < lo := fun x => e (decide_eq_true x)
        refine ⟨.str z, rfl, z, rfl, szl (by omega), .int hi, rfl, _, hi, rfl, rfl, _, rfl, ?_⟩
        show if _ = true then _ else _
        refine ite2 (fun e2 => ?_) (fun e2 => ?_)
        · have h1 : hi < (z.length : Int) := of_decide_eq_true e2
          have h2 := q H (Same.refl H)
          have h3 : ans (ofB sg lo hi) (.str z) = false := by
            show ((decide (lo ≤ (z.length : Int)) && decide ((z.length : Int) ≤ hi)) && inB sg z) = false
            rw [decide_eq_false (show ¬ (z.length : Int) ≤ hi by omega), Bool.and_false]
            rfl
          rw [h3] at h2
          exact h2
        · have h2 : ¬ hi < (z.length : Int) := fun x => e2 (decide_eq_true x)
          refine ⟨.str z, rfl, z, rfl, fun D hD => ?_⟩
          refine lc_it walk_str (fun i H' => Same H H' ∧ H' D = some (.lst ((z.cps.toList.take i).map fun c => V.bl (decide (c ∈ sg.cps.toList))))) ⟨same_upd hD, upd_same⟩ (fun _ _ _ _ => trivial) ?_ ?_
          · rintro i x H1 H2 hi1 ⟨sm, eD⟩ ⟨rfl, c, hc, rfl⟩
            refine ⟨rfl, _, rfl, _, rfl, c, sg, rfl, rfl, _, eD, ?_, same_mut sm hD, ?_⟩
            · rw [List.length_map, List.length_take, len_tl]
              exact szlt (by omega)
            · rw [upd_same, take_map _ (at_l hc)]
          · rintro H1 ⟨sm, eD⟩
            refine ⟨D, z.cps.toList.map fun c => decide (c ∈ sg.cps.toList), rfl, SqL.of ?_, ?_⟩
            · rw [eD, List.map_map, List.take_of_length_le (show z.cps.toList.length ≤ z.cps.size from Nat.le_of_eq (len_tl z))]
              rfl
            · have h4 := q H1 sm
              have h3 : ans (ofB sg lo hi) (.str z) = (z.cps.toList.map fun c => decide (c ∈ sg.cps.toList)).all id := by
                show ((decide (lo ≤ (z.length : Int)) && decide ((z.length : Int) ≤ hi)) && inB sg z) = _
                rw [decide_eq_true (by omega), decide_eq_true (by omega), List.all_map]
                rfl
              rw [h3] at h4
              exact h4
    · refine ⟨v, rfl, v, .ty "str", _, _, false, rfl, .ty "str", ty, kit_ty nk, false, rfl, ?_⟩
      have h2 := q H (Same.refl H)
      rw [ef] at h2
      exact h2
def spIs (f : Str → Bool) : Sp := fun vs H Q _ => ∃ (v : V), vs = [v] ∧ Thing H v ∧ ∀ H', Same H H' → Q (.bl (ans f v)) H'
theorem head_at {z : Str} (h : 0 < z.length) : ∃ c, z.cps.toList.head? = some c ∧ atI z.cps.toList 0 = some c := by
  have hl := len_tl z
  cases e : z.cps.toList with
  | nil =>
    rw [e] at hl
    have : 0 = z.length := hl
    omega
  | cons c r => exact ⟨c, rfl, atI_nat (j := 0) rfl⟩
theorem nought_ne {z : Str} {c : Nat} (h : z.cps.toList.head? = some c) : nought z = (decide (V.str z = V.str "0") || !decide (V.str ⟨#[c]⟩ = V.str "0")) := by
  unfold nought
  rw [h]
  have e1 : decide (V.str z = V.str "0") = decide (z = "0") := by
    by_cases h : z = "0"
    · rw [decide_eq_true h, decide_eq_true (congrArg V.str h)]
    · rw [decide_eq_false h, decide_eq_false fun x => h (V.str.inj x)]
  have e2 : decide (V.str ⟨#[c]⟩ = V.str "0") = decide (some c = some 48) := by
    by_cases h : c = 48
    · subst h
      decide
    · rw [decide_eq_false fun x => h (Option.some.inj x), decide_eq_false fun x => h ?_]
      have y : (⟨#[c]⟩ : Str) = ⟨#[48]⟩ := (V.str.inj x).trans (by decide)
      have y2 : (#[c] : Array Nat) = #[48] := congrArg Str.cps y
      have y3 := congrArg (fun a : Array Nat => a.toList) y2
      exact (List.cons.inj y3).1
  rw [e1, e2]
theorem ofB_len {sg : Str} {lo hi : Int} {z : Str} (h : ofB sg lo hi z = true) : lo ≤ z.length := by
  unfold ofB at h
  simp only [Bool.and_eq_true, decide_eq_true_eq] at h
  exact h.1.1
theorem ok_is_figures (T : Txt K mg) : FnOk P w K mg base CX0 2 T.f_is_figures T.fd_is_figures ["text"] (spIs figB) := by
  refine T.d_is_figures.F.ok sc_is_figures (fun vs H Q E h => ?_) (fun cdv A outer s H vs Q E hr h => ?_)
  · obtain ⟨v, rfl, _⟩ := h
    rfl
  · obtain ⟨v, rfl, th, q⟩ := h
    refine ⟨_, (pss_cons (ps_if (pt_not (pt_val (pe_call (ok_is_made_of T) (hr.mono (by decide)) (by rfl) T.d_is_made_of.g T.d_is_made_of.F.kp T.d_is_made_of.b .nil pass0 (pa_cons (pv 0) (pa_cons (pe_glob (v := .str "0123456789") (by rfl) T.g_FIGURES ⟨_, rfl⟩) (pa_cons pe_int (pa_cons (pe_glob (v := .int 60) (by rfl) T.g_MOST_FIGURES ⟨_, rfl⟩) pa_nil)))))))
      (pss_one (ps_ret pe_bl))
      pss_nil)
      (pss_one (ps_ret (pe_or (pe_cmpR op_eq (pv 0) pe_str (nomark _)) (pe_one (pe_cmpR op_ne (pe_ix ix_str (pv 0) pe_int (fun _ _ => rfl)) pe_str (nomark _))))))), ?_⟩
    refine ⟨v, rfl, v, _, _, _, rfl, th, fun H1 sm => ⟨_, rfl, ?_⟩⟩
    show if (!ans (ofB "0123456789" 1 60) v) = true then _ else _
    refine ite2 (fun e => ?_) (fun e => ?_)
    · have e1 : ans (ofB "0123456789" 1 60) v = false := by simpa using e
      have h2 := q H1 sm
      have e2 : ans figB v = false := by
        cases v <;> first | rfl | skip
        show (ofB "0123456789" 1 60 _ && _) = false
        rw [show ofB "0123456789" 1 60 _ = false from e1]
        rfl
      rw [e2] at h2
      exact h2
    · have e1 : ans (ofB "0123456789" 1 60) v = true := by simpa using e
      rcases th.two (K := K) with ⟨z, rfl, hz⟩ | ⟨n, ty, nk, ef⟩
      · have l0 : 0 < z.length := by
          have := ofB_len (show ofB "0123456789" 1 60 z = true from e1)
          omega
        obtain ⟨c, hc, ec⟩ := head_at l0
        have h2 := q H1 sm
        have e3 : ans figB (.str z) = (decide (V.str z = V.str "0") || !decide (V.str ⟨#[c]⟩ = V.str "0")) := by
          show (ofB "0123456789" 1 60 z && nought z) = _
          rw [show ofB "0123456789" 1 60 z = true from e1, nought_ne hc]
          rfl
        rw [e3] at h2
        refine ⟨_, rfl, rfl, _, rfl, ite2 (fun e4 => ?_) (fun e4 => ?_)⟩
        · rw [e4, Bool.true_or] at h2
          exact h2
        · refine ⟨_, rfl, z, 0, c, rfl, rfl, szl (by omega), ec, rfl, ?_⟩
          have e5 : decide (V.str z = V.str "0") = false := by simpa using e4
          rw [e5, Bool.false_or] at h2
          exact h2
      · rw [ef] at e1
        cases e1

theorem ok_law_well0 (T : Txt K mg) : FnOk P w K mg base CX0 1 T.f_law_well T.fd_law_well ["_law_cell"] spWell := by
  refine T.d_law_well.F.ok sc_law_well (fun vs H Q E h => ?_) (fun cdv A outer s H vs Q E hr h => ?_)
  · obtain ⟨n, rfl, _⟩ := h
    rfl
  · obtain ⟨n, rfl, q⟩ := h
    refine ⟨_, (pss_one (ps_ret (pe_lst (pa_cons (pe_op op_mul (pv 0) (pe_callTy call_int1 (by rfl) T.m_int (by decide +kernel) (pa_cons (pe_cmpR op_ge (pv 0) (pe_op op_pow pe_int pe_int) (nomark _)) pa_nil))) (pa_cons (pe_op op_mod (pv 0) pe_int) (pa_cons pe_int pa_nil)))))), ?_⟩
    refine ⟨.int n, rfl, .int n, rfl, 10, 18, rfl, rfl, ⟨by decide, by decide, by decide⟩, n, _, rfl, rfl, .inr ⟨_, rfl, n, _, rfl, rfl, ?_, .int n, rfl, n, _, rfl, rfl, (show (0 : Int) < 2147483647 by decide), ?_⟩⟩
    · refine .inr ?_
      split <;> decide
    · exact ⟨(by show 3 ≤ sizeLine; decide), fun p hp => q p _ _ _ hp⟩
theorem ok_law_draw0 (T : Txt K mg) : FnOk P w K mg base CX0 1 T.f_law_draw T.fd_law_draw ["_law_well_here", "_law_many"] spDraw := by
  refine T.d_law_draw.F.ok sc_law_draw (fun vs H Q E h => ?_) (fun cdv A outer s H vs Q E hr h => ?_)
  · obtain ⟨W, m, rfl, _⟩ := h
    rfl
  · obtain ⟨W, m, rfl, m0, m1, hI, q⟩ := h
    obtain ⟨a, b, c, hW⟩ := id hI
    have i0 : atI [V.int a, .int b, .int c] 0 = some (.int a) := rfl
    have i1 : atI [V.int a, .int b, .int c] 1 = some (.int b) := rfl
    have i2 : atI [V.int a, .int b, .int c] 2 = some (.int c) := rfl
    refine ⟨_, (pss_cons (ps_if (pt_cmpR op_gt (pe_ix (ixLK K rfl) (pv 0) pe_int (fun _ _ => rfl)) pe_int (nomark _))
      (pss_cons (ps_set (i := 2) sc_law_draw.nd rfl (.inl rfl) (pe_op op_mod (pe_ix (ixLK K rfl) (pv 0) pe_int (fun _ _ => rfl)) (pv 1)))
      (pss_cons (ps_asg (pe_op op_fdiv (pe_ix (ixLK K rfl) (pv 0) pe_int (fun _ _ => rfl)) (pv 1)) (pg_sub (pv 0) pe_int set_list))
      (pss_one (ps_ret (pv 2)))))
      pss_nil)
      (pss_cons (ps_asg (pe_op op_add (pe_ix (ixLK K rfl) (pv 0) pe_int (fun _ _ => rfl)) pe_int) (pg_sub (pv 0) pe_int set_list))
      (pss_cons (ps_set (i := 3) sc_law_draw.nd rfl (.inl rfl) (pe_op op_mod (pe_op op_mul (pe_op op_add (pe_op op_add (pe_ix (ixLK K rfl) (pv 0) pe_int (fun _ _ => rfl)) (pe_op op_mul pe_int (pe_ix (ixLK K rfl) (pv 0) pe_int (fun _ _ => rfl)))) pe_int) pe_int) pe_int))
      (pss_cons (ps_set (i := 3) sc_law_draw.nd rfl (.inl rfl) (pe_op op_mod (pe_op op_mul (pv 3) (pe_op op_add (pe_op op_fdiv (pv 3) pe_int) pe_int)) pe_int))
      (pss_one (ps_ret (pe_op op_mod (pe_op op_mod (pe_op op_mul (pv 3) (pe_op op_add (pe_op op_fdiv (pv 3) pe_int) pe_int)) pe_int) (pv 1)))))))), ?_⟩
    refine ⟨.ref W, rfl, W, _, 0, _, rfl, rfl, SqL.of hW, i0, a, 0, rfl, rfl, _, rfl, ite2 (fun e => ?_) (fun e => ?_)⟩
    · refine ⟨.ref W, rfl, W, _, 0, _, rfl, rfl, SqL.of hW, i0, .int m, rfl, a, m, rfl, rfl, m0, ?_⟩
      refine ⟨.ref W, rfl, W, _, 0, _, rfl, rfl, SqL.of hW, i0, .int m, rfl, a, m, rfl, rfl, ⟨m0, m1⟩, .ref W, rfl, W, _, 0, 0, rfl, rfl, hW, rfl, ?_⟩
      exact ⟨_, rfl, q _ _ (mod_lt m0).1 (mod_lt m0).2 ((Wx.refl hI).set _ _ _)⟩
    · refine ⟨.ref W, rfl, W, _, 2, _, rfl, rfl, SqL.of hW, i2, c, 1, rfl, rfl, .ref W, rfl, W, _, 2, 2, rfl, rfl, hW, rfl, ?_⟩
      have hW' : (upd H W (W3 a b (c + 1))) W = some (W3 a b (c + 1)) := upd_same
      have j1 : atI [V.int a, .int b, .int (c + 1)] 1 = some (.int b) := rfl
      have j2 : atI [V.int a, .int b, .int (c + 1)] 2 = some (.int (c + 1)) := rfl
      refine ⟨.ref W, rfl, W, _, 1, _, rfl, rfl, SqL.of hW', j1, .ref W, rfl, W, _, 2, _, rfl, rfl, SqL.of hW', j2, 7919, _, rfl, rfl, .inl (by decide), b, _, rfl, rfl, _, 1, rfl, rfl, _, 48271, rfl, rfl, .inr (by decide), _, 2147483647, rfl, rfl, (show (0 : Int) < 2147483647 by decide), ?_⟩
      refine ⟨_, rfl, _, rfl, _, 1009, rfl, rfl, ⟨by decide, by decide⟩, _, 69621, rfl, rfl, _, _, rfl, rfl, cmul_of (mod_lt (by decide)), _, 2147483647, rfl, rfl, (show (0 : Int) < 2147483647 by decide), ?_⟩
      refine ⟨_, rfl, _, rfl, _, 2003, rfl, rfl, ⟨by decide, by decide⟩, _, 40692, rfl, rfl, _, _, rfl, rfl, cmul_of (mod_lt (by decide)), _, 2147483399, rfl, rfl, (show (0 : Int) < 2147483399 by decide), .int m, rfl, _, m, rfl, rfl, m0, ?_⟩
      exact q _ _ (mod_lt m0).1 (mod_lt m0).2 ((Wx.refl hI).set _ _ _)
theorem ok_law_well (T : Txt K mg) : FnOk P w K mg base CX0 1 T.f_law_well T.fd_law_well ["_law_cell"] (spWl 3) := (ok_law_well0 T).imp wl_of_well
theorem ok_law_draw (T : Txt K mg) : FnOk P w K mg base CX0 1 T.f_law_draw T.fd_law_draw ["_law_well_here", "_law_many"] (spDr 3 1073741824) := (ok_law_draw0 T).imp dr_of_draw

theorem ok_Rule_init (T : Txt K mg) : FnOk P w K mg base CX0 1 T.f_Rule_init T.fd_Rule_init ["self", "keep", "worn", "alone", "anew", "own", "common", "never", "strict"] (spRInit T.C_Rule) := by
  refine T.d_Rule_init.F.ok sc_Rule_init (fun vs H Q E h => ?_) (fun cdv A outer s H vs Q E hr h => ?_)
  · obtain ⟨p, dx, r, rfl, _⟩ := h
    rfl
  · obtain ⟨p, dx, r, rfl, hp, k⟩ := h
    refine ⟨_, (pss_cons (ps_fld (pv 0) (pv 1) rfl)
      (pss_cons (ps_fld (pv 0) (pv 2) rfl)
      (pss_cons (ps_fld (pv 0) (pv 3) rfl)
      (pss_cons (ps_fld (pv 0) (pv 4) rfl)
      (pss_cons (ps_fld (pv 0) (pv 5) rfl)
      (pss_cons (ps_fld (pv 0) (pv 6) rfl)
      (pss_cons (ps_fld (pv 0) (pv 7) rfl)
      (pss_one (ps_fld (pv 0) (pv 8) rfl))))))))), ?_⟩
    refine ⟨_, rfl, _, rfl, p, _, dx, [], rfl, hp, T.cl_Rule, T.n_Rule_keep, fewL few0 (by decide), ?_⟩
    refine ⟨_, rfl, _, rfl, p, _, dx, _, rfl, upd_same, T.cl_Rule, T.n_Rule_worn, fewL (few few0) (by decide), ?_⟩
    refine ⟨_, rfl, _, rfl, p, _, dx, _, rfl, upd_same, T.cl_Rule, T.n_Rule_alone, fewL (few (few few0)) (by decide), ?_⟩
    refine ⟨_, rfl, _, rfl, p, _, dx, _, rfl, upd_same, T.cl_Rule, T.n_Rule_anew, fewL (few (few (few few0))) (by decide), ?_⟩
    refine ⟨_, rfl, _, rfl, p, _, dx, _, rfl, upd_same, T.cl_Rule, T.n_Rule_own, fewL (few (few (few (few few0)))) (by decide), ?_⟩
    refine ⟨_, rfl, _, rfl, p, _, dx, _, rfl, upd_same, T.cl_Rule, T.n_Rule_common, fewL (few (few (few (few (few few0))))) (by decide), ?_⟩
    refine ⟨_, rfl, _, rfl, p, _, dx, _, rfl, upd_same, T.cl_Rule, T.n_Rule_never, fewL (few (few (few (few (few (few few0)))))) (by decide), ?_⟩
    refine ⟨_, rfl, _, rfl, p, _, dx, _, rfl, upd_same, T.cl_Rule, T.n_Rule_strict, fewL (few (few (few (few (few (few (few few0))))))) (by decide), ?_⟩
    simp only [upd_upd]
    exact k
theorem ok_Wish_init (T : Txt K mg) : FnOk P w K mg base CX0 1 T.f_Wish_init T.fd_Wish_init ["self", "atmost", "left", "worn", "anew", "kept", "firm"] (spWInit T.C_Wish) := by
  refine T.d_Wish_init.F.ok sc_Wish_init (fun vs H Q E h => ?_) (fun cdv A outer s H vs Q E hr h => ?_)
  · obtain ⟨p, dx, r, rfl, _⟩ := h
    rfl
  · obtain ⟨p, dx, r, rfl, hp, k⟩ := h
    refine ⟨_, (pss_cons (ps_fld (pv 0) (pv 1) rfl)
      (pss_cons (ps_fld (pv 0) (pv 2) rfl)
      (pss_cons (ps_fld (pv 0) (pv 3) rfl)
      (pss_cons (ps_fld (pv 0) (pv 4) rfl)
      (pss_cons (ps_fld (pv 0) (pv 5) rfl)
      (pss_one (ps_fld (pv 0) (pv 6) rfl))))))), ?_⟩
    refine ⟨_, rfl, _, rfl, p, _, dx, [], rfl, hp, T.cl_Wish, T.n_Wish_atmost, fewL few0 (by decide), ?_⟩
    refine ⟨_, rfl, _, rfl, p, _, dx, _, rfl, upd_same, T.cl_Wish, T.n_Wish_left, fewL (few few0) (by decide), ?_⟩
    refine ⟨_, rfl, _, rfl, p, _, dx, _, rfl, upd_same, T.cl_Wish, T.n_Wish_worn, fewL (few (few few0)) (by decide), ?_⟩
    refine ⟨_, rfl, _, rfl, p, _, dx, _, rfl, upd_same, T.cl_Wish, T.n_Wish_anew, fewL (few (few (few few0))) (by decide), ?_⟩
    refine ⟨_, rfl, _, rfl, p, _, dx, _, rfl, upd_same, T.cl_Wish, T.n_Wish_kept, fewL (few (few (few (few few0)))) (by decide), ?_⟩
    refine ⟨_, rfl, _, rfl, p, _, dx, _, rfl, upd_same, T.cl_Wish, T.n_Wish_firm, fewL (few (few (few (few (few few0))))) (by decide), ?_⟩
    simp only [upd_upd]
    exact k

theorem ok_NoRule_init (T : Txt K mg) : FnOk P w K mg base CX0 1 T.f_NoRule_init T.fd_NoRule_init ["self", "at"] (Lx.spEI "at" T.C_NoRule) := by
  refine T.d_NoRule_init.F.ok sc_NoRule_init (fun vs H Q E h => ?_) (fun cdv A outer s H vs Q E hr h => ?_)
  · obtain ⟨a, y, rfl, _⟩ := h
    rfl
  · obtain ⟨a, y, rfl, h, q⟩ := h
    refine ⟨_, pss_one (ps_ost (pv 0) (pv 1)), ?_⟩
    exact ⟨y, rfl, .ref a, rfl, a, T.C_NoRule, rfl, T.ox_NoRule, T.na_NoRule, .inl ⟨h, fun dx h1 h2 => q dx h1 h2⟩⟩
theorem ok_NoWish_init (T : Txt K mg) : FnOk P w K mg base CX0 1 T.f_NoWish_init T.fd_NoWish_init ["self", "at"] (Lx.spEI "at" T.C_NoWish) := by
  refine T.d_NoWish_init.F.ok sc_NoWish_init (fun vs H Q E h => ?_) (fun cdv A outer s H vs Q E hr h => ?_)
  · obtain ⟨a, y, rfl, _⟩ := h
    rfl
  · obtain ⟨a, y, rfl, h, q⟩ := h
    refine ⟨_, pss_one (ps_ost (pv 0) (pv 1)), ?_⟩
    exact ⟨y, rfl, .ref a, rfl, a, T.C_NoWish, rfl, T.ox_NoWish, T.na_NoWish, .inl ⟨h, fun dx h1 h2 => q dx h1 h2⟩⟩
end
end My
namespace My
open PySem PySem.Spec PyProof.Rows L2 TL
open Lx hiding ints_of paired_app paired_at Wd
section
variable {P : Program} {w : World} {K : PySem.W.Frag} {mg : Str → Option Value} {base : Heap}
theorem ok_is_name (T : Txt K mg) : FnOk P w K mg base CX0 2 T.f_is_name T.fd_is_name ["text"] (spIs nameB) := by
  refine T.d_is_name.F.ok sc_is_name (fun vs H Q E h => ?_) (fun cdv A outer s H vs Q E hr h => ?_)
  · obtain ⟨v, rfl, _⟩ := h
    rfl
  · obtain ⟨v, rfl, th, q⟩ := h
    refine ⟨_, (pss_one (ps_ret (pe_call (ok_is_made_of T) (hr.mono (by decide)) (by rfl) T.d_is_made_of.g T.d_is_made_of.F.kp T.d_is_made_of.b .nil pass0 (pa_cons (pv 0) (pa_cons (pe_glob (v := .str "abcdefghijklmnopqrstuvwxyz") (by rfl) T.g_LETTERS ⟨_, rfl⟩) (pa_cons pe_int (pa_cons (pe_glob (v := .int 8) (by rfl) T.g_LONGEST_NAME ⟨_, rfl⟩) pa_nil))))))), ?_⟩
    exact ⟨v, rfl, v, _, _, _, rfl, th, fun H1 sm => q H1 sm⟩
def spWordTold : Sp := fun vs H Q _ => ∃ z : Str, vs = [.str z] ∧ z.length ≤ 20000 ∧ ∀ v H', Same H H' → PWd H' v (wordT z) → Q v H'
theorem par_len (S : List Nat) : ∀ (xs acc a b : List Nat), par S acc xs = some (a, b) → a.length ≤ acc.length + xs.length ∧ b.length ≤ xs.length
  | [], acc, a, b, h => by cases h
  | c :: r, acc, a, b, h => by
    unfold par at h
    by_cases hp : pre S (c :: r) = true
    · rw [if_pos hp] at h
      cases h
      rw [List.length_drop]
      omega
    · rw [if_neg hp] at h
      have := par_len S r _ a b h
      rw [List.length_append] at this
      rw [List.length_cons]
      simp only [List.length_cons, List.length_nil] at this
      omega
theorem part_len (z y : Str) (hy : tl y ≠ []) : (Txt.partition z y).1.length ≤ z.length ∧ (Txt.partition z y).2.2.length ≤ z.length := by
  rw [partition_par z y hy]
  have e2 : (tl z).length = z.length := My.len_tl z
  cases h : par (tl y) [] (tl z) with
  | none => exact ⟨Nat.le_refl _, Nat.zero_le _⟩
  | some ab =>
    obtain ⟨a, b⟩ := ab
    obtain ⟨u1, u2⟩ := par_len _ _ _ _ _ h
    have u1' : a.length ≤ 0 + (tl z).length := u1
    have u2' : b.length ≤ (tl z).length := u2
    rw [e2] at u1' u2'
    exact ⟨Nat.le_trans (Nat.le_of_eq (mk_len a)) (by omega), Nat.le_trans (Nat.le_of_eq (mk_len b)) (by omega)⟩
theorem ok_word_told (T : Txt K mg) : FnOk P w K mg base CX0 3 T.f_word_told T.fd_word_told ["piece"] spWordTold := by
  refine T.d_word_told.F.ok sc_word_told (fun vs H Q E h => ?_) (fun cdv A outer s H vs Q E hr h => ?_)
  · obtain ⟨z, rfl, _⟩ := h
    rfl
  · obtain ⟨z, rfl, hz, q⟩ := h
    refine ⟨_, (pss_cons (ps_asg (pe_partition (pv 0) pe_str) (pg_tup rfl (pgs_cons (pg_name (i := 1) sc_word_told.nd rfl (.inl rfl)) (pgs_cons (pg_name (i := 2) sc_word_told.nd rfl (.inl rfl)) (pgs_cons (pg_name (i := 3) sc_word_told.nd rfl (.inl rfl)) pgs_nil)))))
      (pss_cons (ps_if (pt_not (pt_val (pe_call (ok_is_name T) (hr.mono (by decide)) (by rfl) T.d_is_name.g T.d_is_name.F.kp T.d_is_name.b .nil pass0 (pa_cons (pv 1) pa_nil))))
      (pss_one (ps_ret pe_non))
      pss_nil)
      (pss_cons (ps_if (pt_cmpR op_eq (pv 2) pe_str (nomark _))
      (pss_one (ps_ret (pe_tup (pa_cons (pv 1) (pa_cons pe_non pa_nil)))))
      pss_nil)
      (pss_cons (ps_if (pt_not (pt_val (pe_call (ok_is_figures T) (hr.mono (by decide)) (by rfl) T.d_is_figures.g T.d_is_figures.F.kp T.d_is_figures.b .nil pass0 (pa_cons (pv 3) pa_nil))))
      (pss_one (ps_ret pe_non))
      pss_nil)
      (pss_one (ps_ret (pe_tup (pa_cons (pv 1) (pa_cons (pe_callTy call_int_str (by rfl) T.m_int (by decide +kernel) (pa_cons (pv 3) pa_nil)) pa_nil))))))))), ?_⟩
    have hpl := part_len z " " (by decide)
    refine ⟨.str z, rfl, ⟨z, rfl⟩, z, _, rfl, rfl, by decide, szl (by omega), fun p hp => ?_⟩
    unfold wordT at q
    generalize Txt.partition z " " = pp at *
    obtain ⟨nm, bl, fg⟩ := pp
    dsimp only at q hpl ⊢
    have s0 := same_upd (o := .tup [.str nm, .str bl, .str fg]) hp
    refine ⟨p, _, rfl, SqT.of upd_same, rfl, _, _, rfl, _, _, rfl, _, _, rfl, rfl, ?_⟩
    refine ⟨_, rfl, .str nm, rfl, .str nm (by omega), fun H1 s1 => ⟨_, rfl, ?_⟩⟩
    show if (!nameB nm) = true then _ else _
    have t1 := s0.trans s1
    refine ite2 (fun e => ?_) (fun e => ?_)
    · rw [if_neg (show ¬ nameB nm = true by rw [show nameB nm = false by simpa using e]; exact Bool.false_ne_true)] at q
      exact q .non H1 t1 rfl
    rw [if_pos (show nameB nm = true by simpa using e)] at q
    refine ⟨_, rfl, rfl, _, rfl, ite2 (fun e2 => ?_) (fun e2 => ?_)⟩
    · rw [if_pos (of_decide_eq_true e2)] at q
      refine ⟨_, rfl, (by show 2 ≤ sizeLine; decide), fun t ht => ?_⟩
      exact q (.ref t) _ (t1.trans (same_upd ht)) ⟨t, rfl, upd_same⟩
    rw [if_neg (fun x => e2 (decide_eq_true x))] at q
    refine ⟨_, rfl, .str fg, rfl, .str fg (by omega), fun H2 s2 => ⟨_, rfl, ?_⟩⟩
    show if (!figB fg) = true then _ else _
    have t2 := t1.trans s2
    refine ite2 (fun e3 => ?_) (fun e3 => ?_)
    · rw [if_neg (show ¬ figB fg = true by rw [show figB fg = false by simpa using e3]; exact Bool.false_ne_true)] at q
      exact q .non H2 t2 rfl
    have hf : figB fg = true := by simpa using e3
    rw [if_pos hf] at q
    obtain ⟨n, hn, ln⟩ := fig_int hf
    rw [hn] at q
    refine ⟨_, rfl, .str fg, rfl, fg, n, rfl, hn, by omega, (by show 2 ≤ sizeLine; decide), fun t ht => ?_⟩
    exact q (.ref t) _ (t2.trans (same_upd ht)) ⟨t, rfl, upd_same⟩
def rStripC : V → List V → Hp → VK → Prop := fun x xs H Q => ∃ a b, x = .str a ∧ xs = [.str b] ∧ a.length ≤ sizeLine ∧ Q (.str (Txt.stripChars a b)) H
def spWords : Sp := fun vs H Q _ => ∃ z : Str, vs = [.str z] ∧ z.length ≤ 20000 ∧ ∀ p xs H', H p = none → Same H H' → H' p = some (.lst xs) → Paired (PWd H') xs (wordsT z) → xs.length ≤ 20002 → Q (.ref p) H'
theorem stripBy_len (g : Nat → Bool) (l r : Bool) (x : Str) : (Txt.stripBy g l r x).length ≤ x.length := by
  unfold Txt.stripBy
  split
  · exact Nat.le_refl _
  · unfold stripped PySem.Builtin.Str.strSub
    show (Array.extract _ _ _).size ≤ x.cps.size
    rw [Array.size_extract]
    omega
theorem spl_len (S : List Nat) : ∀ (L : List Nat) (k : Nat) (acc : List Nat), (spl S k acc L).length ≤ L.length + 1 ∧ ∀ p ∈ spl S k acc L, p.length ≤ acc.length + L.length
  | [], k, acc => by
    rw [spl_nil]
    refine ⟨Nat.le_refl _, fun p hp => ?_⟩
    rw [List.mem_singleton.mp hp]
    exact Nat.le_add_right _ _
  | c :: r, 0, acc => by
    cases h : pre S (c :: r) with
    | true =>
      rw [spl_hit h]
      obtain ⟨h1, h2⟩ := spl_len S r (S.length - 1) []
      refine ⟨by rw [List.length_cons, List.length_cons]; omega, fun p hp => ?_⟩
      rcases List.mem_cons.mp hp with rfl | hp
      · exact Nat.le_add_right _ _
      · have := h2 p hp
        rw [List.length_nil] at this
        rw [List.length_cons]
        omega
    | false =>
      rw [spl_miss h]
      obtain ⟨h1, h2⟩ := spl_len S r 0 (acc ++ [c])
      refine ⟨by rw [List.length_cons]; omega, fun p hp => ?_⟩
      have := h2 p hp
      rw [List.length_append, List.length_singleton] at this
      rw [List.length_cons]
      omega
  | c :: r, k + 1, acc => by
    obtain ⟨h1, h2⟩ := spl_len S r k acc
    show (spl S k acc r).length ≤ _ ∧ ∀ p ∈ spl S k acc r, _
    refine ⟨by rw [List.length_cons]; omega, fun p hp => ?_⟩
    have := h2 p hp
    rw [List.length_cons]
    omega
theorem split_len (z : Str) : (Txt.split z ",").length ≤ z.length + 1 ∧ ∀ p ∈ Txt.split z ",", p.length ≤ z.length := by
  have e := split_spl z "," (by decide) (kind_ok (by decide +kernel))
  obtain ⟨h1, h2⟩ := spl_len (tl ",") (tl z) 0 []
  have ez : (tl z).length = z.length := My.len_tl z
  rw [← e, List.length_map, ez] at h1
  refine ⟨h1, fun p hp => ?_⟩
  have := h2 (tl p) (by rw [← e]; exact List.mem_map.mpr ⟨p, hp, rfl⟩)
  rw [ez, List.length_nil] at this
  have ep : (tl p).length = p.length := My.len_tl p
  omega
theorem ok_words_told (T : Txt K mg) : FnOk P w K mg base CX0 4 T.f_words_told T.fd_words_told ["text"] spWords := by
  refine T.d_words_told.F.ok sc_words_told (fun vs H Q E h => ?_) (fun cdv A outer s H vs Q E hr h => ?_)
  · obtain ⟨z, rfl, _⟩ := h
    rfl
  · obtain ⟨z, rfl, hz, q⟩ := h
    refine ⟨_, (pss_cons (ps_if (pt_cmpR op_eq (bmK K rfl (pe_bm PySem.F.plainAttrs_str PySem.F.slot_str_strip PySem.F.type_str_strip mt_stripChars (pv 0) (pa_cons pe_str pa_nil))) pe_str (nomark _))
      (pss_one (ps_ret (pe_lst pa_nil)))
      pss_nil)
      (pss_one (ps_ret (pe_lc (own := [("piece", 1)]) (g := gName 1) (tt := tYes) (te := tCall spWordTold [] E0 (tCons (tBM K "str" rStripC (tVar 1) (tCons (tC (.str " ")) tNil)) tNil)) (by rfl) sc_words_told.nd (pi_listK K rfl (pe_split (pv 0) pe_str)) (blkOk_by (own := [("piece", 1)]) (N := ["text", "piece"]) (sc := defScope s_words_told) (by decide +kernel)) (fun _ _ _ _ _ => (pg_name (i := 1) sc_words_told.nd rfl (Or.inl rfl))) (fun _ _ _ _ _ => pts_nil) (fun _ _ _ _ _ => (pe_call (ok_word_told T) (hr.mono (by decide)) (by rfl) T.d_word_told.g T.d_word_told.F.kp T.d_word_told.b .nil pass0 (pa_cons (bmK K rfl (pe_bm PySem.F.plainAttrs_str PySem.F.slot_str_strip PySem.F.type_str_strip mt_stripChars (pv 1) (pa_cons pe_str pa_nil))) pa_nil))))))), ?_⟩
    unfold wordsT at q
    refine ⟨.str z, rfl, rfl, z, _, rfl, rfl, szl (by omega), rfl, _, rfl, ite2 (fun e => ?_) (fun e => ?_)⟩
    · rw [if_pos (of_decide_eq_true e)] at q
      exact ⟨Nat.zero_le _, fun p hp => q p [] _ hp (same_upd hp) upd_same .nil (Nat.zero_le _)⟩
    rw [if_neg (fun x => e (decide_eq_true x))] at q
    refine ⟨.str z, rfl, ⟨z, rfl⟩, z, _, rfl, rfl, by decide, Nat.le_trans (show z.length + 2 ≤ 20002 by omega) (by decide), fun p hp => ?_⟩
    obtain ⟨hl, hpl⟩ : (Txt.split z ",").length ≤ z.length + 1 ∧ ∀ p ∈ Txt.split z ",", p.length ≤ z.length := split_len z
    have s0 := same_upd (o := .lst ((Txt.split z ",").map V.str)) hp
    refine ⟨p, rfl, ⟨_, SqL.of upd_same⟩, fun D hD => ?_⟩
    refine lc_list (K := K) (a := p) (xs := (Txt.split z ",").map V.str) (fun i H' => Same (upd H p (.lst ((Txt.split z ",").map V.str))) H' ∧ ∃ xs, H' D = some (.lst xs) ∧ Paired (PWd H') xs (((Txt.split z ",").take i).map fun p => wordT (Txt.stripChars p " ")) ∧ xs.length = i) ⟨same_upd hD, [], upd_same, .nil, rfl⟩ (fun i H' _ pv => SqL.of (pv.1 _ _ upd_same)) ?_ ?_
    · rintro i x H1 hi ⟨s1, xs, eD, hx, lx⟩
      obtain ⟨y, rfl, hy, my⟩ := str_at hi
      have hil : i < (Txt.split z ",").length := (List.getElem?_eq_some_iff.mp hy).1
      have ly := hpl y my
      have lys : (Txt.stripChars y " ").length ≤ y.length := stripBy_len _ _ _ y
      refine ⟨rfl, .str y, rfl, rfl, y, _, rfl, rfl, szl (by omega), Txt.stripChars y " ", rfl, by omega, fun v H2 s2 pv => ?_⟩
      refine ⟨xs, s2 _ _ eD, szlt (by omega), same_mut (s1.trans s2) hD, xs ++ [v], upd_same, ?_, by rw [List.length_append, lx]; rfl⟩
      rw [take_map _ hy]
      exact pwd_upd (s2 _ _ eD) (paired_app (pwd_mono s2 hx) (.cons pv .nil))
    · rintro H1 ⟨s1, xs, eD, hx, lx⟩
      rw [List.length_map] at lx
      rw [List.length_map, List.take_length] at hx
      exact q D xs H1 (s0.free hD) (s0.trans s1) eD hx (by omega)

end
end My
namespace My
open PySem PySem.Spec PyProof.Rows L2 TL
open Lx hiding ints_of paired_app paired_at Wd
section
variable {P : Program} {w : World} {K : PySem.W.Frag} {mg : Str → Option Value} {base : Heap}
def isN : Option Int → Bool
  | none => true
  | some _ => false
theorem oV_non (x : Option Int) : decide (oV x = V.non) = x.isNone := by
  cases x with
  | none => rfl
  | some n => exact decide_eq_false (fun z => by cases z)
theorem someNone (x : Option Int) : (!x.isNone) = x.isSome := by cases x <;> rfl
def spSuits (K : PySem.W.Frag) : Sp := fun vs H Q _ => ∃ (t b c : Addr) (d : Wd) (ns ts : List Str), vs = [.ref t, .ref b, .ref c] ∧ H t = some (.tup [.str d.1, oV d.2]) ∧ SqT K H b (ns.map V.str) ∧ SqT K H c (ts.map V.str) ∧ Q (.bl (suitB ns ts d)) H
theorem ok_suits_its_name (T : Txt K mg) : FnOk P w K mg base CX0 1 T.f_suits_its_name T.fd_suits_its_name ["word", "numbers", "truths"] (spSuits K) := by
  refine T.d_suits_its_name.F.ok sc_suits_its_name (fun vs H Q E h => ?_) (fun cdv A outer s H vs Q E hr h => ?_)
  · obtain ⟨t, b, c, d, ns, ts, rfl, _⟩ := h
    rfl
  · obtain ⟨t, b, c, d, ns, ts, rfl, ht, hb, hc, q⟩ := h
    refine ⟨_, (pss_cons (ps_asg (pv 0) (pg_tup rfl (pgs_cons (pg_name (i := 3) sc_suits_its_name.nd rfl (.inl rfl)) (pgs_cons (pg_name (i := 4) sc_suits_its_name.nd rfl (.inl rfl)) pgs_nil))))
      (pss_cons (ps_if (pt_cmpR (inK K rfl) (pv 3) (pv 1) rfl)
      (pss_one (ps_ret (pe_cmpR op_notN (pv 4) pe_non (nomark _))))
      pss_nil)
      (pss_one (ps_ret (pe_pure (pe_or (pe_cmpR (notInK K rfl) (pv 3) (pv 2) rfl) (pe_one (pe_cmpR op_isN (pv 4) pe_non (nomark _))))))))), ?_⟩
    refine ⟨.ref t, rfl, t, _, rfl, SqT.of ht, rfl, _, _, rfl, _, _, rfl, rfl, ?_⟩
    unfold suitB at q
    refine ⟨_, rfl, _, rfl, b, _, rfl, .inr hb, rfl, flat_strs ns, decide (d.1 ∈ ns), ?_, ite2 (fun e => ?_) (fun e => ?_)⟩
    · show V.bl (if false = true then _ else inV _ _) = _
      rw [if_neg Bool.false_ne_true, inV_strs]
    · rw [if_pos e] at q
      refine ⟨_, rfl, rfl, ?_⟩
      rw [oV_non, someNone]
      exact q
    · rw [if_neg e] at q
      refine ⟨.bl (!decide (d.1 ∈ ts) || d.2.isNone), ?_, q⟩
      refine ⟨_, rfl, _, rfl, c, _, rfl, .inr hc, rfl, flat_strs ts, !decide (d.1 ∈ ts), ?_, ite2 (fun e2 => ?_) (fun e2 => ?_)⟩
      · show V.bl (if true = true then !inV _ _ else _) = _
        rw [if_pos rfl, inV_strs]
      · rw [e2]
        exact ⟨rfl, rfl⟩
      · refine ⟨_, rfl, rfl, ?_, rfl⟩
        rw [oV_non, show (!decide (d.1 ∈ ts)) = false by simpa using e2]
        rfl
def spFW (K : PySem.W.Frag) : Sp := fun vs H Q _ => ∃ (a b c : Addr) (xs : List V) (ws : List (Option Wd)) (ns ts : List Str), vs = [.ref a, .ref b, .ref c] ∧ H a = some (.lst xs) ∧ Paired (PWd H) xs ws ∧ (∀ H, SqT K H b (ns.map V.str)) ∧ (∀ H, SqT K H c (ts.map V.str)) ∧
  ∀ H', Same H H' → Q (match wrongAt ns ts ws with | none => .non | some k => .int (k : Nat)) H'
theorem wrong_first {ns ts : List Str} {ws : List (Option Wd)} {i : Nat} {w : Option Wd} (h : ∀ j u, j < i → ws[j]? = some u → badB ns ts u = false) (hi : ws[i]? = some w) (hw : badB ns ts w = true) : wrongAt ns ts ws = some i := by
  unfold wrongAt
  rw [List.findIdx?_eq_some_iff_getElem]
  have hl := (List.getElem?_eq_some_iff.mp hi).1
  refine ⟨hl, ?_, fun j hj => ?_⟩
  · rw [show ws[i] = w from (List.getElem?_eq_some_iff.mp hi).2]
    exact hw
  · have := h j ws[j] hj (List.getElem?_eq_getElem (Nat.lt_trans hj hl))
    rw [this]
    exact Bool.false_ne_true
theorem wrong_none {ns ts : List Str} {ws : List (Option Wd)} (h : ∀ j u, j < ws.length → ws[j]? = some u → badB ns ts u = false) : wrongAt ns ts ws = none := by
  unfold wrongAt
  rw [List.findIdx?_eq_none_iff]
  intro x hx
  obtain ⟨j, hj⟩ := List.mem_iff_getElem?.mp hx
  exact h j x (List.getElem?_eq_some_iff.mp hj).1 hj
theorem ok_first_wrong (T : Txt K mg) : FnOk P w K mg base CX0 2 T.f_first_wrong T.fd_first_wrong ["words", "numbers", "truths"] (spFW K) := by
  refine T.d_first_wrong.F.ok sc_first_wrong (fun vs H Q E h => ?_) (fun cdv A outer s H vs Q E hr h => ?_)
  · obtain ⟨a, b, c, xs, ws, ns, ts, rfl, _⟩ := h
    rfl
  · obtain ⟨a, b, c, xs, ws, ns, ts, rfl, ha, hx, hb, hc, q⟩ := h
    refine ⟨_, (pss_cons (ps_for PassesOwn.never rfl (pi_enum (by rfl) T.m_enumerate (pa_cons (pv 0) pa_nil)) (pg_tup rfl (pgs_cons (pg_name (i := 3) sc_first_wrong.nd rfl (.inl rfl)) (pgs_cons (pg_name (i := 4) sc_first_wrong.nd rfl (.inl rfl)) pgs_nil)))
      (pss_one (ps_if (pt_mid (PW.pt (pw_or (pt_cmpR op_isN (pv 4) pe_non (nomark _)) (pw_or1 (pt_not (pt_val (pe_call (ok_suits_its_name T) (hr.mono (by decide)) (by rfl) T.d_suits_its_name.g T.d_suits_its_name.F.kp T.d_suits_its_name.b .nil pass0 (pa_cons (pv 4) (pa_cons (pv 1) (pa_cons (pv 2) pa_nil))))))))))
      (pss_one (ps_ret (pv 3)))
      pss_nil)))
      (pss_one (ps_ret pe_non))), ?_⟩
    have lx : xs.length = ws.length := Paired.length hx
    refine ⟨.ref a, rfl, a, xs, rfl, SqL.of ha, for_it (walk_enum (K := K) (a := a) (xs := xs)) (fun i σ H' => Same H H' ∧ (∀ j u, j < i → ws[j]? = some u → badB ns ts u = false) ∧ ∃ y3 y4, σ = [some (.ref a), some (.ref b), some (.ref c), y3, y4]) ⟨Same.refl _, fun j u hj => absurd hj (Nat.not_lt_zero j), none, none, rfl⟩ (fun i σ H' _ pv => SqL.of (pv.1 _ _ ha)) ?_ ?_⟩
    · rintro i x σ H1 H2 hi ⟨s1, hj, y3, y4, rfl⟩ ⟨Tt, x', y, rfl, hT, rfl, e1, e2⟩
      cases e1
      obtain ⟨w, hw, pw⟩ := paired_at hx e2
      have s2 := same_upd (o := .tup [.int (i : Nat), y]) hT
      have t2 := s1.trans s2
      have pw2 := pw.mono t2
      refine ⟨Tt, _, rfl, SqT.of upd_same, rfl, _, _, rfl, _, _, rfl, rfl, ?_⟩
      refine ⟨fun bb H' => bb = badB ns ts w ∧ H' = upd H1 Tt (.tup [.int (i : Nat), y]), ?_, fun bb H' hb' => ?_⟩
      · cases w with
        | none =>
          cases pw2
          exact ⟨_, rfl, rfl, true, rfl, rfl, rfl⟩
        | some d =>
          obtain ⟨t, rfl, ht⟩ := pw2
          exact ⟨_, rfl, rfl, false, rfl, _, rfl, _, rfl, _, rfl, t, b, c, d, ns, ts, rfl, ht, hb _, hc _, _, rfl, rfl, rfl⟩
      · obtain ⟨rfl, rfl⟩ := hb'
        refine ite2 (fun e => ?_) (fun e => ?_)
        · have := q _ t2
          rw [wrong_first hj hw e] at this
          exact ⟨_, rfl, this⟩
        · refine ⟨t2, fun j u hjl hu => ?_, _, _, rfl⟩
          by_cases z : j = i
          · rw [z, hw] at hu
            cases hu
            simpa using e
          · exact hj j u (by omega) hu
    · rintro σ H1 ⟨s1, hj, y3, y4, rfl⟩
      have := q H1 s1
      rw [wrong_none fun j u h1 h2 => hj j u (by omega) h2] at this
      exact this
def spNums : Sp := fun vs H Q _ => ∃ (a : Addr) (name : Str) (xs : List V) (ds : List Wd), vs = [.ref a, .str name] ∧ H a = some (.lst xs) ∧ Paired (PWd H) xs (ds.map some) ∧ ds.length ≤ 90000 ∧ ∀ p H', Same H H' → H' p = some (.lst ((numsT name ds).map oV)) → Q (.ref p) H'
theorem ok_numbers_told (T : Txt K mg) : FnOk P w K mg base CX0 1 T.f_numbers_told T.fd_numbers_told ["words", "name"] spNums := by
  refine T.d_numbers_told.F.ok sc_numbers_told (fun vs H Q E h => ?_) (fun cdv A outer s H vs Q E hr h => ?_)
  · obtain ⟨a, name, xs, ds, rfl, _⟩ := h
    rfl
  · obtain ⟨a, name, xs, ds, rfl, ha, hx, ld, q⟩ := h
    refine ⟨_, (pss_one (ps_ret (pe_lc (own := [("named", 2), ("number", 3)]) (g := gTup K 2 (gCons (gName 2) (gCons (gName 3) gNil))) (by rfl) sc_numbers_told.nd (pi_listK K rfl (pv 0)) (blkOk_by (own := [("named", 2), ("number", 3)]) (N := ["words", "name", "named", "number"]) (sc := defScope s_numbers_told) (by decide +kernel)) (fun _ _ _ _ _ => (pg_tup rfl (pgs_cons (pg_name (i := 2) sc_numbers_told.nd rfl (Or.inl rfl)) (pgs_cons (pg_name (i := 3) sc_numbers_told.nd rfl (Or.inl rfl)) pgs_nil)))) (fun _ _ _ _ _ => (pts_one (pt_cmpR op_eq (pv 2) (pv 1) (nomark _)))) (fun _ _ _ _ _ => (pv 3))))), ?_⟩
    have lx : xs.length = ds.length := (Paired.length hx).trans (List.length_map ..)
    refine ⟨.ref a, rfl, a, rfl, ⟨_, SqL.of ha⟩, fun D hD => ?_⟩
    refine lc_list (K := K) (a := a) (xs := xs) (fun i H' => Same H H' ∧ H' D = some (.lst ((numsT name (ds.take i)).map oV))) ⟨same_upd hD, upd_same⟩ (fun i H' _ pv => SqL.of (pv.1 _ _ ha)) ?_ ?_
    · rintro i x H1 hi ⟨s1, eD⟩
      obtain ⟨w, hw, pw⟩ := paired_at hx hi
      rw [List.getElem?_map] at hw
      cases hk : ds[i]? with
      | none =>
        rw [hk] at hw
        cases hw
      | some d =>
        rw [hk] at hw
        cases hw
        obtain ⟨t, rfl, ht⟩ := pw.mono s1
        have hil : i < ds.length := (List.getElem?_eq_some_iff.mp hk).1
        have hf := filter_take (fun d : Wd => decide (d.1 = name)) (fun d => oV d.2) hk
        have e0 : ∀ l : List Wd, (numsT name l).map oV = (l.filter fun d => decide (d.1 = name)).map fun d => oV d.2 := fun l => by
          unfold numsT
          rw [List.map_map]
          rfl
        have hln : ((numsT name (ds.take i)).map oV).length ≤ i := by
          rw [e0, List.length_map]
          exact Nat.le_trans (List.length_filter_le ..) (by rw [List.length_take]; omega)
        refine ⟨t, _, rfl, SqT.of ht, rfl, _, _, rfl, _, _, rfl, rfl, rfl, _, rfl, _, rfl, rfl, _, rfl, ite2 (fun e => ?_) (fun e => ?_)⟩
        · have e' : d.1 = name := V.str.inj (of_decide_eq_true e)
          refine ⟨_, rfl, _, eD, szlt (by omega), same_mut s1 hD, ?_⟩
          rw [upd_same, e0, e0, hf, if_pos (decide_eq_true e')]
        · have e' : ¬ d.1 = name := fun z => e (decide_eq_true (congrArg V.str z))
          refine ⟨s1, ?_⟩
          rw [eD, e0, e0, hf, if_neg (fun z => e' (of_decide_eq_true z)), List.append_nil]
    · rintro H1 ⟨s1, eD⟩
      rw [lx, List.take_length] at eD
      exact q D H1 s1 eD
def spTold : Sp := fun vs H Q _ => ∃ (a : Addr) (name : Str) (xs : List V) (ds : List Wd), vs = [.ref a, .str name] ∧ H a = some (.lst xs) ∧ Paired (PWd H) xs (ds.map some) ∧ (∀ d ∈ ds, Asc d.1) ∧ Asc name ∧ ∀ H', Same H H' → Q (.bl (toldT name ds)) H'
theorem ok_is_told (T : Txt K mg) : FnOk P w K mg base CX0 1 T.f_is_told T.fd_is_told ["words", "name"] spTold := by
  refine T.d_is_told.F.ok sc_is_told (fun vs H Q E h => ?_) (fun cdv A outer s H vs Q E hr h => ?_)
  · obtain ⟨a, name, xs, ds, rfl, _⟩ := h
    rfl
  · obtain ⟨a, name, xs, ds, rfl, ha, hx, hA, hn, q⟩ := h
    refine ⟨_, (pss_one (ps_ret (pe_cmpR (inDK K rfl (u65 hr)) (pe_tup (pa_cons (pv 1) (pa_cons pe_non pa_nil))) (pv 0) rfl))), ?_⟩
    refine ⟨_, rfl, (by show 2 ≤ sizeLine; decide), fun t ht => ?_⟩
    have s1 := same_upd (o := .tup [.str name, .non]) ht
    refine ⟨.ref a, rfl, .tuple [.str name, .none], ds.map wdD, .tup (SqT.of upd_same) (.cons (.str _) (.cons .non .nil)), .lst (SqL.of (s1 _ _ ha)) (dp_wds (pwd_mono s1 hx)), ?_, shaped_wds hA, ?_⟩
    · simp [SeqAt.shaped, PyData.canLay0, PyData.canLayAll0, PyData.depth, PyData.depthAll, ok_asc hn]
    · rw [any_wds]
      exact q _ s1

end
end My
namespace My
open PySem PySem.Spec PyProof.Rows L2 TL
open Lx hiding ints_of paired_app paired_at Wd
section
variable {P : Program} {w : World} {K : PySem.W.Frag} {mg : Str → Option Value} {base : Heap}
def spReadX (C CN : Addr) : Sp := fun vs H Q E => ∃ z : Str, vs = [.str z] ∧ z.length ≤ 20000 ∧
  (∀ ds : List Wd, wordsT z = ds.map some → (∀ d ∈ ds, suitB rNs rTs d = true) → ∀ p H', H p = none → Same H H' → RuleAt C H' p (ruleOf ds) → Q (.ref p) H') ∧
  (∀ i : Nat, wrongAt rNs rTs (wordsT z) = some i → ∀ d H', H d = none → Same H H' → H' d = some (.xd [("at", .int (i : Int))]) → E (.ref CN) (some d) H')
theorem right_all (ns ts : List Str) : ∀ ws : List (Option Wd), wrongAt ns ts ws = none → ∃ ds : List Wd, ws = ds.map some ∧ ∀ d ∈ ds, suitB ns ts d = true
  | [], _ => ⟨[], rfl, fun d h => nomatch h⟩
  | u :: r, h => by
    unfold wrongAt at h
    rw [List.findIdx?_cons] at h
    cases hb : badB ns ts u with
    | true =>
      rw [hb] at h
      cases h
    | false =>
      rw [hb] at h
      have h' : wrongAt ns ts r = none := by
        unfold wrongAt
        simpa using h
      obtain ⟨ds, e, hs⟩ := right_all ns ts r h'
      cases u with
      | none => cases hb
      | some d =>
        refine ⟨d :: ds, by rw [e]; rfl, fun x hx => ?_⟩
        rcases List.mem_cons.mp hx with rfl | hx
        · have hb' : (!suitB ns ts x) = false := hb
          simpa using hb'
        · exact hs x hx
theorem ok_read_rule (T : Txt K mg) : FnOk P w K mg base (L2.CX P w) 5 T.f_read_rule T.fd_read_rule ["text"] (spReadX T.C_Rule T.C_NoRule) := by
  refine T.d_read_rule.F.okX sc_read_rule (fun vs H Q E h => ?_) (fun cdv A outer s H vs Q E hr h => ?_)
  · obtain ⟨z, rfl, _⟩ := h
    rfl
  · obtain ⟨z, rfl, hz, q0, qx⟩ := h
    refine ⟨_, (pss_cons (ps_set (i := 1) sc_read_rule.nd rfl (.inl rfl) (pe_call (ok_words_told T) (hr.mono (by decide)) (by rfl) T.d_words_told.g T.d_words_told.F.kp T.d_words_told.b .nil pass0 (pa_cons (pv 0) pa_nil)))
      (pss_cons (ps_set (i := 2) sc_read_rule.nd rfl (.inl rfl) (pe_call (ok_first_wrong T) (hr.mono (by decide)) (by rfl) T.d_first_wrong.g T.d_first_wrong.F.kp T.d_first_wrong.b .nil pass0 (pa_cons (pv 1) (pa_cons (pe_glob (v := .ref T.a_RULE_NUMBERS) (by rfl) T.g_RULE_NUMBERS rfl) (pa_cons (pe_glob (v := .ref T.a_RULE_TRUTHS) (by rfl) T.g_RULE_TRUTHS rfl) pa_nil)))))
      (pss_cons (ps_if (pt_cmpR op_notN (pv 2) pe_non (nomark _))
      (pss_one (ps_raise rfl (takes_of rfl rfl rfl rfl) (pmk_oex T.ox_NoRule T.ii_NoRule T.ti_NoRule (ok_NoRule_init T) (hr.mono (by decide)) T.d_NoRule_init.b .nil pass0 (by rfl) T.g_NoRule (pa_cons (pv 2) pa_nil))))
      pss_nil)
      (pss_one (ps_ret (pe_makeK0 T.mk_Rule (ok_Rule_init T) (hr.mono (by decide)) (by rfl) T.g_Rule T.kb_0.choose_spec pass0 (pk_cons (pe_callBK (minDfK K rfl rfl hr.units) (by rfl) T.m_min (by decide +kernel) (pa_cons (pe_call (ok_numbers_told T) (hr.mono (by decide)) (by rfl) T.d_numbers_told.g T.d_numbers_told.F.kp T.d_numbers_told.b .nil pass0 (pa_cons (pv 1) (pa_cons pe_str pa_nil))) pa_nil) (pk_cons pe_int pk_nil)) (pk_cons (pe_callBK (minDfK K rfl rfl hr.units) (by rfl) T.m_min (by decide +kernel) (pa_cons (pe_call (ok_numbers_told T) (hr.mono (by decide)) (by rfl) T.d_numbers_told.g T.d_numbers_told.F.kp T.d_numbers_told.b .nil pass0 (pa_cons (pv 1) (pa_cons pe_str pa_nil))) pa_nil) (pk_cons pe_int pk_nil)) (pk_cons (pe_callBK (minDfK K rfl rfl hr.units) (by rfl) T.m_min (by decide +kernel) (pa_cons (pe_call (ok_numbers_told T) (hr.mono (by decide)) (by rfl) T.d_numbers_told.g T.d_numbers_told.F.kp T.d_numbers_told.b .nil pass0 (pa_cons (pv 1) (pa_cons pe_str pa_nil))) pa_nil) (pk_cons pe_int pk_nil)) (pk_cons (pe_call (ok_is_told T) (hr.mono (by decide)) (by rfl) T.d_is_told.g T.d_is_told.F.kp T.d_is_told.b .nil pass0 (pa_cons (pv 1) (pa_cons pe_str pa_nil))) (pk_cons (pe_call (ok_is_told T) (hr.mono (by decide)) (by rfl) T.d_is_told.g T.d_is_told.F.kp T.d_is_told.b .nil pass0 (pa_cons (pv 1) (pa_cons pe_str pa_nil))) (pk_cons (pe_call (ok_is_told T) (hr.mono (by decide)) (by rfl) T.d_is_told.g T.d_is_told.F.kp T.d_is_told.b .nil pass0 (pa_cons (pv 1) (pa_cons pe_str pa_nil))) (pk_cons (pe_call (ok_is_told T) (hr.mono (by decide)) (by rfl) T.d_is_told.g T.d_is_told.F.kp T.d_is_told.b .nil pass0 (pa_cons (pv 1) (pa_cons pe_str pa_nil))) (pk_cons (pe_call (ok_is_told T) (hr.mono (by decide)) (by rfl) T.d_is_told.g T.d_is_told.F.kp T.d_is_told.b .nil pass0 (pa_cons (pv 1) (pa_cons pe_str pa_nil))) pk_nil)))))))))))))), ?_⟩
    refine ⟨.str z, rfl, z, rfl, hz, fun a xs H1 na s1 ea hx lx => ?_⟩
    cases hwr : wrongAt rNs rTs (wordsT z) with
    | some i =>
      refine ⟨.ref a, rfl, a, _, _, xs, _, rNs, rTs, rfl, ea, hx, T.q_RULE_NUMBERS, T.q_RULE_TRUTHS, fun H2 s2 => ?_⟩
      rw [hwr]
      refine ⟨_, rfl, rfl, true, rfl, ?_⟩
      refine ⟨_, rfl, by show 1 ≤ 1000; decide, fun e he' => ⟨e, .int (i : Int), rfl, upd_same, fun dx hdx ndx => ⟨rfl, dx, [("at", .int (i : Int))], upd_same, ?_, ?_, ?_⟩⟩⟩
      · rw [upd_ne ndx, upd_same]
      · rw [upd_ne ndx] at hdx
        exact hdx
      · rw [upd_ne ndx] at hdx
        rw [Lx.made_heap he' ndx]
        exact qx i hwr dx _ ((s1.trans s2).free hdx) ((s1.trans s2).trans (same_upd hdx)) upd_same
    | none =>
    obtain ⟨ds, hw, hs⟩ := right_all _ _ _ hwr
    have q := q0 ds hw hs
    rw [hw] at hx
    have ld : xs.length = ds.length := (Paired.length hx).trans (List.length_map ..)
    have hA : ∀ d ∈ ds, Asc d.1 := fun d hd => name_asc (words_names hw d hd)
    rw [hw] at hwr
    refine ⟨.ref a, rfl, a, _, _, xs, ds.map some, rNs, rTs, rfl, ea, hx, T.q_RULE_NUMBERS, T.q_RULE_TRUTHS, fun H2 s2 => ?_⟩
    rw [hwr]
    refine ⟨_, rfl, rfl, false, rfl, ?_⟩
    have t2 := s1.trans s2
    have ea2 := s2 _ _ ea
    have hx2 := pwd_mono s2 hx
    obtain ⟨i_keep, e_keep⟩ := nums_some hs (show ("keep" : Str) ∈ rNs by decide)
    refine ⟨.ref a, rfl, a, "keep", xs, ds, rfl, ea2, hx2, by omega, fun m3 H3 s3 em3 => ?_⟩
    rw [e_keep, List.map_map] at em3
    refine ⟨m3, i_keep, _, rfl, rfl, SqL.of em3, ?_⟩
    have t3 := t2.trans s3
    have ea3 := s3 _ _ ea2
    have hx3 := pwd_mono s3 hx2
    obtain ⟨i_worn, e_worn⟩ := nums_some hs (show ("worn" : Str) ∈ rNs by decide)
    refine ⟨.ref a, rfl, a, "worn", xs, ds, rfl, ea3, hx3, by omega, fun m4 H4 s4 em4 => ?_⟩
    rw [e_worn, List.map_map] at em4
    refine ⟨m4, i_worn, _, rfl, rfl, SqL.of em4, ?_⟩
    have t4 := t3.trans s4
    have ea4 := s4 _ _ ea3
    have hx4 := pwd_mono s4 hx3
    obtain ⟨i_alone, e_alone⟩ := nums_some hs (show ("alone" : Str) ∈ rNs by decide)
    refine ⟨.ref a, rfl, a, "alone", xs, ds, rfl, ea4, hx4, by omega, fun m5 H5 s5 em5 => ?_⟩
    rw [e_alone, List.map_map] at em5
    refine ⟨m5, i_alone, _, rfl, rfl, SqL.of em5, ?_⟩
    have t5 := t4.trans s5
    have ea5 := s5 _ _ ea4
    have hx5 := pwd_mono s5 hx4
    refine ⟨.ref a, rfl, a, "anew", xs, ds, rfl, ea5, hx5, hA, by decide, fun H6 s6 => ?_⟩
    have t6 := t5.trans s6
    have ea6 := s6 _ _ ea5
    have hx6 := pwd_mono s6 hx5
    refine ⟨.ref a, rfl, a, "own", xs, ds, rfl, ea6, hx6, hA, by decide, fun H7 s7 => ?_⟩
    have t7 := t6.trans s7
    have ea7 := s7 _ _ ea6
    have hx7 := pwd_mono s7 hx6
    refine ⟨.ref a, rfl, a, "common", xs, ds, rfl, ea7, hx7, hA, by decide, fun H8 s8 => ?_⟩
    have t8 := t7.trans s8
    have ea8 := s8 _ _ ea7
    have hx8 := pwd_mono s8 hx7
    refine ⟨.ref a, rfl, a, "never", xs, ds, rfl, ea8, hx8, hA, by decide, fun H9 s9 => ?_⟩
    have t9 := t8.trans s9
    have ea9 := s9 _ _ ea8
    have hx9 := pwd_mono s9 hx8
    refine ⟨.ref a, rfl, a, "strict", xs, ds, rfl, ea9, hx9, hA, by decide, fun H10 s10 => ?_⟩
    have t10 := t9.trans s10
    have ea10 := s10 _ _ ea9
    have hx10 := pwd_mono s10 hx9
    refine ⟨rfl, rfl, fun p dx np ndx ndp => ⟨p, dx, ruleOf ds, ?_, upd_same, rfl, ?_⟩⟩
    · unfold ruleOf
      rw [ints_of e_keep]
      rw [ints_of e_worn]
      rw [ints_of e_alone]
      cases minI i_worn <;> cases minI i_keep <;> cases minI i_alone <;> rfl
    · rw [upd_upd]
      exact q p _ (t10.free np) (t10.trans ((same_upd ndx).trans (same_upd (by rw [upd_ne ndp.symm]; exact np)))) ⟨dx, upd_same⟩

def spReadXW (C CN : Addr) : Sp := fun vs H Q E => ∃ z : Str, vs = [.str z] ∧ z.length ≤ 20000 ∧
  (∀ ds : List Wd, wordsT z = ds.map some → (∀ d ∈ ds, suitB wNs wTs d = true) → ∀ p H', H p = none → Same H H' → WishAt C H' p (wishOf ds) → Q (.ref p) H') ∧
  (∀ i : Nat, wrongAt wNs wTs (wordsT z) = some i → ∀ d H', H d = none → Same H H' → H' d = some (.xd [("at", .int (i : Int))]) → E (.ref CN) (some d) H')
theorem ok_read_wish (T : Txt K mg) : FnOk P w K mg base (L2.CX P w) 5 T.f_read_wish T.fd_read_wish ["text"] (spReadXW T.C_Wish T.C_NoWish) := by
  refine T.d_read_wish.F.okX sc_read_wish (fun vs H Q E h => ?_) (fun cdv A outer s H vs Q E hr h => ?_)
  · obtain ⟨z, rfl, _⟩ := h
    rfl
  · obtain ⟨z, rfl, hz, q0, qx⟩ := h
    refine ⟨_, (pss_cons (ps_set (i := 1) sc_read_wish.nd rfl (.inl rfl) (pe_call (ok_words_told T) (hr.mono (by decide)) (by rfl) T.d_words_told.g T.d_words_told.F.kp T.d_words_told.b .nil pass0 (pa_cons (pv 0) pa_nil)))
      (pss_cons (ps_set (i := 2) sc_read_wish.nd rfl (.inl rfl) (pe_call (ok_first_wrong T) (hr.mono (by decide)) (by rfl) T.d_first_wrong.g T.d_first_wrong.F.kp T.d_first_wrong.b .nil pass0 (pa_cons (pv 1) (pa_cons (pe_glob (v := .ref T.a_WISH_NUMBERS) (by rfl) T.g_WISH_NUMBERS rfl) (pa_cons (pe_glob (v := .ref T.a_WISH_TRUTHS) (by rfl) T.g_WISH_TRUTHS rfl) pa_nil)))))
      (pss_cons (ps_if (pt_cmpR op_notN (pv 2) pe_non (nomark _))
      (pss_one (ps_raise rfl (takes_of rfl rfl rfl rfl) (pmk_oex T.ox_NoWish T.ii_NoWish T.ti_NoWish (ok_NoWish_init T) (hr.mono (by decide)) T.d_NoWish_init.b .nil pass0 (by rfl) T.g_NoWish (pa_cons (pv 2) pa_nil))))
      pss_nil)
      (pss_one (ps_ret (pe_makeK0 T.mk_Wish (ok_Wish_init T) (hr.mono (by decide)) (by rfl) T.g_Wish T.kb_1.choose_spec pass0 (pk_cons (pe_callBK (minDfK K rfl rfl hr.units) (by rfl) T.m_min (by decide +kernel) (pa_cons (pe_call (ok_numbers_told T) (hr.mono (by decide)) (by rfl) T.d_numbers_told.g T.d_numbers_told.F.kp T.d_numbers_told.b .nil pass0 (pa_cons (pv 1) (pa_cons pe_str pa_nil))) pa_nil) (pk_cons pe_non pk_nil)) (pk_cons (pe_callBK (maxDfK K rfl rfl hr.units) (by rfl) T.m_max (by decide +kernel) (pa_cons (pe_call (ok_numbers_told T) (hr.mono (by decide)) (by rfl) T.d_numbers_told.g T.d_numbers_told.F.kp T.d_numbers_told.b .nil pass0 (pa_cons (pv 1) (pa_cons pe_str pa_nil))) pa_nil) (pk_cons pe_int pk_nil)) (pk_cons (pe_callBK (minDfK K rfl rfl hr.units) (by rfl) T.m_min (by decide +kernel) (pa_cons (pe_call (ok_numbers_told T) (hr.mono (by decide)) (by rfl) T.d_numbers_told.g T.d_numbers_told.F.kp T.d_numbers_told.b .nil pass0 (pa_cons (pv 1) (pa_cons pe_str pa_nil))) pa_nil) (pk_cons pe_int pk_nil)) (pk_cons (pe_call (ok_is_told T) (hr.mono (by decide)) (by rfl) T.d_is_told.g T.d_is_told.F.kp T.d_is_told.b .nil pass0 (pa_cons (pv 1) (pa_cons pe_str pa_nil))) (pk_cons (pe_call (ok_is_told T) (hr.mono (by decide)) (by rfl) T.d_is_told.g T.d_is_told.F.kp T.d_is_told.b .nil pass0 (pa_cons (pv 1) (pa_cons pe_str pa_nil))) (pk_cons (pe_call (ok_is_told T) (hr.mono (by decide)) (by rfl) T.d_is_told.g T.d_is_told.F.kp T.d_is_told.b .nil pass0 (pa_cons (pv 1) (pa_cons pe_str pa_nil))) pk_nil)))))))))))), ?_⟩
    refine ⟨.str z, rfl, z, rfl, hz, fun a xs H1 na s1 ea hx lx => ?_⟩
    cases hwr : wrongAt wNs wTs (wordsT z) with
    | some i =>
      refine ⟨.ref a, rfl, a, _, _, xs, _, wNs, wTs, rfl, ea, hx, T.q_WISH_NUMBERS, T.q_WISH_TRUTHS, fun H2 s2 => ?_⟩
      rw [hwr]
      refine ⟨_, rfl, rfl, true, rfl, ?_⟩
      refine ⟨_, rfl, by show 1 ≤ 1000; decide, fun e he' => ⟨e, .int (i : Int), rfl, upd_same, fun dx hdx ndx => ⟨rfl, dx, [("at", .int (i : Int))], upd_same, ?_, ?_, ?_⟩⟩⟩
      · rw [upd_ne ndx, upd_same]
      · rw [upd_ne ndx] at hdx
        exact hdx
      · rw [upd_ne ndx] at hdx
        rw [Lx.made_heap he' ndx]
        exact qx i hwr dx _ ((s1.trans s2).free hdx) ((s1.trans s2).trans (same_upd hdx)) upd_same
    | none =>
    obtain ⟨ds, hw, hs⟩ := right_all _ _ _ hwr
    have q := q0 ds hw hs
    rw [hw] at hx
    have ld : xs.length = ds.length := (Paired.length hx).trans (List.length_map ..)
    have hA : ∀ d ∈ ds, Asc d.1 := fun d hd => name_asc (words_names hw d hd)
    rw [hw] at hwr
    refine ⟨.ref a, rfl, a, _, _, xs, ds.map some, wNs, wTs, rfl, ea, hx, T.q_WISH_NUMBERS, T.q_WISH_TRUTHS, fun H2 s2 => ?_⟩
    rw [hwr]
    refine ⟨_, rfl, rfl, false, rfl, ?_⟩
    have t2 := s1.trans s2
    have ea2 := s2 _ _ ea
    have hx2 := pwd_mono s2 hx
    obtain ⟨i_atmost, e_atmost⟩ := nums_some hs (show ("atmost" : Str) ∈ wNs by decide)
    refine ⟨.ref a, rfl, a, "atmost", xs, ds, rfl, ea2, hx2, by omega, fun m3 H3 s3 em3 => ?_⟩
    rw [e_atmost, List.map_map] at em3
    refine ⟨m3, i_atmost, _, rfl, rfl, SqL.of em3, ?_⟩
    have t3 := t2.trans s3
    have ea3 := s3 _ _ ea2
    have hx3 := pwd_mono s3 hx2
    obtain ⟨i_left, e_left⟩ := nums_some hs (show ("left" : Str) ∈ wNs by decide)
    refine ⟨.ref a, rfl, a, "left", xs, ds, rfl, ea3, hx3, by omega, fun m4 H4 s4 em4 => ?_⟩
    rw [e_left, List.map_map] at em4
    refine ⟨m4, i_left, _, rfl, rfl, SqL.of em4, ?_⟩
    have t4 := t3.trans s4
    have ea4 := s4 _ _ ea3
    have hx4 := pwd_mono s4 hx3
    obtain ⟨i_worn, e_worn⟩ := nums_some hs (show ("worn" : Str) ∈ wNs by decide)
    refine ⟨.ref a, rfl, a, "worn", xs, ds, rfl, ea4, hx4, by omega, fun m5 H5 s5 em5 => ?_⟩
    rw [e_worn, List.map_map] at em5
    refine ⟨m5, i_worn, _, rfl, rfl, SqL.of em5, ?_⟩
    have t5 := t4.trans s5
    have ea5 := s5 _ _ ea4
    have hx5 := pwd_mono s5 hx4
    refine ⟨.ref a, rfl, a, "anew", xs, ds, rfl, ea5, hx5, hA, by decide, fun H6 s6 => ?_⟩
    have t6 := t5.trans s6
    have ea6 := s6 _ _ ea5
    have hx6 := pwd_mono s6 hx5
    refine ⟨.ref a, rfl, a, "kept", xs, ds, rfl, ea6, hx6, hA, by decide, fun H7 s7 => ?_⟩
    have t7 := t6.trans s7
    have ea7 := s7 _ _ ea6
    have hx7 := pwd_mono s7 hx6
    refine ⟨.ref a, rfl, a, "firm", xs, ds, rfl, ea7, hx7, hA, by decide, fun H8 s8 => ?_⟩
    have t8 := t7.trans s8
    have ea8 := s8 _ _ ea7
    have hx8 := pwd_mono s8 hx7
    refine ⟨rfl, rfl, fun p dx np ndx ndp => ⟨p, dx, wishOf ds, ?_, upd_same, rfl, ?_⟩⟩
    · unfold wishOf
      rw [ints_of e_atmost]
      rw [ints_of e_left]
      rw [ints_of e_worn]
      cases minI i_worn <;> cases minI i_atmost <;> cases maxI i_left <;> rfl
    · rw [upd_upd]
      exact q p _ (t8.free np) (t8.trans ((same_upd ndx).trans (same_upd (by rw [upd_ne ndp.symm]; exact np)))) ⟨dx, upd_same⟩

end
end My
namespace My
open PySem PySem.Spec PyProof.Rows L2 TL
open Lx hiding ints_of paired_app paired_at Wd
abbrev TW := Tu (Str × Option Int × Unit)
def toW (d : Wd) : TW := ⟨d.1, d.2, ()⟩
def lw1 (ns ts : List Str) (d : Option Wd) : Option TW := match d with
  | some d => if suitB ns ts d = true then some (toW d) else none
  | none => none
theorem only_eq (sg z : Str) : decide (((z.cps.toList.filter fun c => !decide (c ∈ sg.cps.toList)).map fun c => (⟨#[c]⟩ : Str)) = []) = inB sg z := by
  unfold inB
  rw [← all_filter (fun c => decide (c ∈ sg.cps.toList))]
  cases (z.cps.toList.filter fun c => !decide (c ∈ sg.cps.toList)) <;> rfl
theorem nameB_eq (a : Str) : (decide (a = Str.ofString "") || (decide ((8 : Int) < (a.length : Int)) || !inB (Str.ofString "abcdefghijklmnopqrstuvwxyz") a)) = !nameB a := by
  unfold nameB ofB
  by_cases h : a = Str.ofString ""
  · subst h
    decide
  · have h1 : a.length ≠ 0 := fun e => h (PyProof.Rows.ext_toList (by
      have : a.cps.toList.length = 0 := by rw [len_tl]; exact e
      rw [List.length_eq_zero_iff.mp this]
      rfl))
    rw [decide_eq_false h, decide_eq_true (show (1 : Int) ≤ (a.length : Int) by omega), Bool.false_or, Bool.true_and]
    by_cases h8 : (8 : Int) < (a.length : Int)
    · rw [decide_eq_true h8, decide_eq_false (show ¬ (a.length : Int) ≤ 8 by omega)]
      rfl
    · rw [decide_eq_false h8, decide_eq_true (show (a.length : Int) ≤ 8 by omega), Bool.false_or, Bool.true_and]
theorem figB_eq (f : Str) (hf : (decide (f = Str.ofString "") || (decide ((60 : Int) < (f.length : Int)) || !inB (Str.ofString "0123456789") f)) = false) : f.cps.toList ≠ [] ∧ figB f = nought f := by
  simp only [Bool.or_eq_false_iff, decide_eq_false_iff_not, Bool.not_eq_false'] at hf
  obtain ⟨h1, h2, h3⟩ := hf
  have hne : f.cps.toList ≠ [] := fun e => h1 (PyProof.Rows.ext_toList (by rw [e]; rfl))
  refine ⟨hne, ?_⟩
  have hl : f.length ≠ 0 := fun e => hne (List.length_eq_zero_iff.mp (by rw [len_tl]; exact e))
  unfold figB ofB
  rw [decide_eq_true (show (1 : Int) ≤ (f.length : Int) by omega), decide_eq_true (show (f.length : Int) ≤ 60 by omega), show inB "0123456789" f = true from h3]
  rfl
theorem figB_no (f : Str) (hf : (decide (f = Str.ofString "") || (decide ((60 : Int) < (f.length : Int)) || !inB (Str.ofString "0123456789") f)) = true) : figB f = false := by
  cases h : figB f with
  | false => rfl
  | true =>
    unfold figB ofB at h
    simp only [Bool.and_eq_true, decide_eq_true_eq] at h
    obtain ⟨⟨⟨h1, h2⟩, h3⟩, _⟩ := h
    simp only [Bool.or_eq_true, decide_eq_true_eq] at hf
    rcases hf with rfl | hf | hf
    · exact absurd h1 (by decide)
    · omega
    · rw [show inB (Str.ofString "0123456789") f = true from h3] at hf
      cases hf
theorem forD_ind {α γ S : Type} {body : α → S → M γ S S} {rt : γ → Prop} {nx : S → Prop} {X : Ex → Prop} (I : Nat → S → Prop) (N : Nat) : ∀ (xs : List α) (i : Nat) (s : S), i + xs.length ≤ N → I i s → (∀ x ∈ xs, ∀ i s, i < N → I i s → ∀ k : S → Prop, (∀ s', I (i + 1) s' → k s') → body x s rt k nx k X) → (∀ i s, I i s → nx s) → forD body rt nx X xs s
  | [], i, s, _, h, _, hn => hn i s h
  | x :: xs, i, s, hl, h, hb, hn => hb x (List.mem_cons_self ..) i s (by rw [List.length_cons] at hl; omega) h _ fun s' h' => forD_ind I N xs (i + 1) s' (by rw [List.length_cons] at hl; omega) h' (fun y hy => hb y (List.mem_cons_of_mem _ hy)) hn
section
variable {P : Program} {w : World} {K : PySem.W.Frag} {mg : Str → Option Value} {base : Heap}
theorem ok_law_piece (T : Txt K mg) : FnOk P w K mg base CX0 2 T.f_law_piece T.fd_law_piece ["_law_well_here"] (spW 3 rs0 rS fun _ => D.any fun z => z.length ≤ 12) := by
  refine T.d_law_piece.F.ok sc_law_piece (fun vs H Q E h => ?_) (fun cdv A outer s H vs Q E hr h => ?_)
  · obtain ⟨W, ns, vs', I, b, P, rfl, _, _, _, _, rp, _⟩ := h
    exact congrArg Nat.succ (len0 _ _ _ _ rp)
  refine ⟨_, (pss_cons (ps_set (i := 1) sc_law_piece.nd rfl (.inl rfl) (pe_lst (pa_cons pe_str (pa_cons pe_str (pa_cons pe_str (pa_cons pe_str (pa_cons pe_str (pa_cons pe_str (pa_cons pe_str pa_nil)))))))))
      (pss_cons (ps_set (i := 2) sc_law_piece.nd rfl (.inl rfl) (pe_lst (pa_cons pe_str (pa_cons pe_str (pa_cons pe_str (pa_cons pe_str (pa_cons pe_str (pa_cons pe_str (pa_cons pe_str (pa_cons pe_str pa_nil))))))))))
      (pss_cons (ps_if (pt_cmpR op_eq (pe_call (ok_law_draw T) (hr.mono (by decide)) (by rfl) T.d_law_draw.g T.d_law_draw.F.kp T.d_law_draw.b .nil pass0 (pa_cons (pv 0) (pa_cons pe_int pa_nil))) pe_int (nomark _))
      (pss_one (ps_ret (pe_ix (ixLK K rfl) (pv 2) (pe_call (ok_law_draw T) (hr.mono (by decide)) (by rfl) T.d_law_draw.g T.d_law_draw.F.kp T.d_law_draw.b .nil pass0 (pa_cons (pv 0) (pa_cons pe_int pa_nil))) (fun _ _ => rfl))))
      pss_nil)
      (pss_cons (ps_set (i := 3) sc_law_piece.nd rfl (.inl rfl) (pe_ix (ixLK K rfl) (pe_lst (pa_cons pe_int (pa_cons pe_int (pa_cons (pe_call (ok_law_draw T) (hr.mono (by decide)) (by rfl) T.d_law_draw.g T.d_law_draw.F.kp T.d_law_draw.b .nil pass0 (pa_cons (pv 0) (pa_cons pe_int pa_nil))) (pa_cons (pe_call (ok_law_draw T) (hr.mono (by decide)) (by rfl) T.d_law_draw.g T.d_law_draw.F.kp T.d_law_draw.b .nil pass0 (pa_cons (pv 0) (pa_cons pe_int pa_nil))) pa_nil))))) (pe_call (ok_law_draw T) (hr.mono (by decide)) (by rfl) T.d_law_draw.g T.d_law_draw.F.kp T.d_law_draw.b .nil pass0 (pa_cons (pv 0) (pa_cons pe_int pa_nil))) (fun _ _ => rfl)))
      (pss_one (ps_ret (pe_op op_add_str (pe_op op_add_str (pe_ix (ixLK K rfl) (pv 1) (pe_call (ok_law_draw T) (hr.mono (by decide)) (by rfl) T.d_law_draw.g T.d_law_draw.F.kp T.d_law_draw.b .nil pass0 (pa_cons (pv 0) (pa_cons pe_int pa_nil))) (fun _ _ => rfl)) pe_str) (pe_callTy call_str_int (by rfl) T.m_str (by decide +kernel) (pa_cons (pv 3) pa_nil))))))))), ?_⟩
  refine fnW (K := K) (mg := mg) (N := ["_law_well_here", "_law_names", "_law_truths", "_law_number"]) prm_nil (fun J I vs b h => by rw [len0 J I vs b h]; decide) (Γn := fun _ _ => []) (Γl := fun _ _ => []) (fun _ => (sb_set (Nat.le_of_ble_eq_true rfl) (se_lstn (ln_cons se_str (ln_cons se_str (ln_cons se_str (ln_cons se_str (ln_cons se_str (ln_cons se_str (ln_cons se_str ln_nil)))))))) (fun _ =>
      (sb_set (Nat.le_of_ble_eq_true rfl) (se_lstn (ln_cons se_str (ln_cons se_str (ln_cons se_str (ln_cons se_str (ln_cons se_str (ln_cons se_str (ln_cons se_str (ln_cons se_str ln_nil))))))))) (fun _ =>
      (sb_ifq (st_test (se_op ro_eqI (se_draw rfl se_int) se_int))
      (sb_ret (se_op ro_ixL (se_var rfl) (se_draw rfl se_int)))
      (sb_set (Nat.le_of_ble_eq_true rfl) (se_op ro_ixL (se_lstn (ln_cons se_int (ln_cons se_int (ln_cons (se_draw rfl se_int) (ln_cons (se_draw rfl se_int) ln_nil))))) (se_draw rfl se_int)) (fun _ =>
      (sb_ret (se_op ro_addS (se_op ro_addS (se_op ro_ixL (se_var rfl) (se_draw rfl se_int)) se_str) (se_cb ro_strI (sa_cons (se_var rfl) sa_nil)))))))))))) ?_ h
  intro b P h
  simp only [decide_eq_true_eq, D.bind, D.pure, D.need, D.any, D.nox] at h ⊢
  have hs : 1000000 ≤ sizeLine := by decide
  have l_0 : (Str.ofString "keep").length = 4 := (by decide); have l_1 : (Str.ofString "worn").length = 4 := (by decide); have l_2 : (Str.ofString "alone").length = 5 := (by decide); have l_3 : (Str.ofString "atmost").length = 6 := (by decide); have l_4 : (Str.ofString "left").length = 4 := (by decide); have l_5 : (Str.ofString "x").length = 1 := (by decide); have l_6 : (Str.ofString "anew").length = 4 := (by decide); have l_7 : (Str.ofString "own").length = 3 := (by decide); have l_8 : (Str.ofString "common").length = 6 := (by decide); have l_9 : (Str.ofString "never").length = 5 := (by decide); have l_10 : (Str.ofString "strict").length = 6 := (by decide); have l_11 : (Str.ofString "kept").length = 4 := (by decide); have l_12 : (Str.ofString "firm").length = 4 := (by decide); have l_13 : (Str.ofString "mine").length = 4 := (by decide); have l_14 : (Str.ofString " ").length = 1 := (by decide)
  refine ⟨by decide, fun r hr => ite2 (fun e => ?_) (fun e => ?_)⟩
  · exact ⟨by decide, fun r hr => at_str (n := 6) hr (by decide) fun z hz => h z (by omega)⟩
  · refine ⟨by decide, fun r1 h1 => ⟨by decide, fun r2 h2 => ⟨by decide, fun r3 h3 => at_draw h3 fun m hm => ?_⟩⟩⟩
    have hm' : 0 ≤ m ∧ m < 1000 := by
      simp only [List.mem_cons, List.not_mem_nil, or_false] at hm
      omega
    have hn := len_num (k := 3) (by decide) hm'.1 (by omega)
    have ho := strI_ok (k := 3) hm'.1 (by omega) (by decide)
    generalize Str.ofString (toString m) = y at hn ho ⊢
    exact ⟨by decide, fun r4 h4 => at_str (n := 6) h4 (by decide) fun z hz => ⟨by omega, ho, by rw [len_app]; omega, h _ (by simp only [len_app]; omega)⟩⟩
theorem ok_law_near (T : Txt K mg) : FnOk P w K mg base CX0 2 T.f_law_near T.fd_law_near ["_law_well_here", "_law_text"] (spW 3 (rsC rS rs0) (rL rS) fun b => D.need (b.1.length ≤ 60) (D.any fun l => ∀ z ∈ l, z.length ≤ 130)) := by
  refine T.d_law_near.F.ok sc_law_near (fun vs H Q E h => ?_) (fun cdv A outer s H vs Q E hr h => ?_)
  · obtain ⟨W, ns, vs', I, b, P, rfl, _, _, _, _, rp, _⟩ := h
    exact congrArg Nat.succ ((lenC len0) _ _ _ _ rp)
  refine ⟨_, (pss_cons (ps_set (i := 2) sc_law_near.nd rfl (.inl rfl) pe_str)
      (pss_cons (ps_set (i := 3) sc_law_near.nd rfl (.inl rfl) (pe_lst (pa_cons (pv 1) pa_nil)))
      (pss_cons (ps_for PassesOwn.never rfl (pi_range1 (by rfl) T.m_range (pa_cons (pe_op op_add (pe_callB call_len_str (by rfl) T.m_len (by decide +kernel) (pa_cons (pv 1) pa_nil)) pe_int) pa_nil)) (pg_name (i := 4) sc_law_near.nd rfl (.inl rfl))
      (pss_cons (ps_set (i := 5) sc_law_near.nd rfl (.inl rfl) (pe_ix ix_str (pv 2) (pe_call (ok_law_draw T) (hr.mono (by decide)) (by rfl) T.d_law_draw.g T.d_law_draw.F.kp T.d_law_draw.b .nil pass0 (pa_cons (pv 0) (pa_cons (pe_callB call_len_str (by rfl) T.m_len (by decide +kernel) (pa_cons (pv 2) pa_nil)) pa_nil))) (fun _ _ => rfl)))
      (pss_cons (ps_for PassesOwn.never rfl (pi_listK K rfl (pe_lst (pa_cons (pv 5) (pa_cons pe_str (pa_cons pe_str pa_nil))))) (pg_name (i := 6) sc_law_near.nd rfl (.inl rfl))
      (pss_one (ps_expr (bmK K rfl (pe_bm PySem.F.plainAttrs_list PySem.F.slot_list_append PySem.F.type_list_append mt_append (pv 3) (pa_cons (pe_op op_add_str (pe_op op_add_str (pe_slice sl_str (pv 1) po_none (po_some (pv 4))) (pv 6)) (pe_slice sl_str (pv 1) (po_some (pv 4)) po_none)) pa_nil))))))
      (pss_one (ps_if (pt_cmpR op_lt (pv 4) (pe_callB call_len_str (by rfl) T.m_len (by decide +kernel) (pa_cons (pv 1) pa_nil)) (nomark _))
      (pss_cons (ps_expr (bmK K rfl (pe_bm PySem.F.plainAttrs_list PySem.F.slot_list_append PySem.F.type_list_append mt_append (pv 3) (pa_cons (pe_op op_add_str (pe_slice sl_str (pv 1) po_none (po_some (pv 4))) (pe_slice sl_str (pv 1) (po_some (pe_op op_add (pv 4) pe_int)) po_none)) pa_nil))))
      (pss_one (ps_expr (bmK K rfl (pe_bm PySem.F.plainAttrs_list PySem.F.slot_list_append PySem.F.type_list_append mt_append (pv 3) (pa_cons (pe_op op_add_str (pe_op op_add_str (pe_slice sl_str (pv 1) po_none (po_some (pv 4))) (pv 5)) (pe_slice sl_str (pv 1) (po_some (pe_op op_add (pv 4) pe_int)) po_none)) pa_nil))))))
      pss_nil)))))
      (pss_one (ps_ret (pv 3)))))), ?_⟩
  refine fnW (K := K) (mg := mg) (N := ["_law_well_here", "_law_text", "_law_some", "_law_found", "_law_at", "_law_sign", "_law_word_here"]) (prm_cons prm_nil) (fun J I vs b h => by rw [(lenC len0) J I vs b h]; decide) (Γn := fun _ _ => []) (Γl := fun _ _ => []) (fun _ => (sb_set (Nat.le_of_ble_eq_true rfl) se_str (fun _ =>
      (sb_newLn (A := rS) (Nat.le_of_ble_eq_true rfl) (ln_cons (se_var rfl) ln_nil) (fun _ =>
      (sb_loop (s0 := _) (fun s : (List Str) => [⟨.l rS, 3, s⟩, ⟨.x, 5, ()⟩, ⟨.x, 6, ()⟩, ⟨.x, 4, ()⟩]) (si_rng1 (sa_cons (se_op ro_add (se_cb ro_lenS (sa_cons (se_var rfl) sa_nil)) se_int) sa_nil)) sg_name rfl ⟨.inr rfl, .inl rfl, .inl rfl, .inl rfl, trivial⟩ (fun _ s =>
      (sb_set (Nat.le_of_ble_eq_true rfl) (se_op ro_ixS (se_var rfl) (se_draw rfl (se_cb ro_lenS (sa_cons (se_var rfl) sa_nil)))) (fun _ =>
      (sb_loop (s0 := _) (fun s : (List Str) => [⟨.l rS, 3, s⟩, ⟨.x, 6, ()⟩]) (si_list (se_lstn (ln_cons (se_var rfl) (ln_cons se_str (ln_cons se_str ln_nil))))) sg_name rfl ⟨.inr rfl, .inl rfl, trivial⟩ (fun _ s =>
      (sb_end (sb_app rfl (se_op ro_addS (se_op ro_addS (se_sl ro_slS (se_var rfl) sp_none (sp_some (se_var rfl))) (se_var rfl)) (se_sl ro_slS (se_var rfl) (sp_some (se_var rfl)) sp_none)) (fun _ =>
      (sb_nextK (ρ := fun s : (List Str) => [⟨.l rS, 3, s⟩, ⟨.x, 6, ()⟩]) (s := _) 4 rfl rfl ⟨.inr rfl, .inl rfl, trivial⟩)))))
      (fun s => (sb_if (st_test (se_op ro_lt (se_var rfl) (se_cb ro_lenS (sa_cons (se_var rfl) sa_nil))))
      (sb_app rfl (se_op ro_addS (se_sl ro_slS (se_var rfl) sp_none (sp_some (se_var rfl))) (se_sl ro_slS (se_var rfl) (sp_some (se_op ro_add (se_var rfl) se_int)) sp_none)) (fun _ =>
      (sb_end (sb_app rfl (se_op ro_addS (se_op ro_addS (se_sl ro_slS (se_var rfl) sp_none (sp_some (se_var rfl))) (se_var rfl)) (se_sl ro_slS (se_var rfl) (sp_some (se_op ro_add (se_var rfl) se_int)) sp_none)) (fun _ =>
      (sb_nextK (ρ := fun s : (List Str) => [⟨.l rS, 3, s⟩, ⟨.x, 5, ()⟩, ⟨.x, 6, ()⟩, ⟨.x, 4, ()⟩]) (s := _) 10 rfl rfl ⟨.inr rfl, .inl rfl, .inl rfl, .inl rfl, trivial⟩))))))
      (sb_nextK (ρ := fun s : (List Str) => [⟨.l rS, 3, s⟩, ⟨.x, 5, ()⟩, ⟨.x, 6, ()⟩, ⟨.x, 4, ()⟩]) (s := _) 8 rfl rfl ⟨.inr rfl, .inl rfl, .inl rfl, .inl rfl, trivial⟩)))))))
      (fun s => (sb_frz 3 rfl (sb_ret (se_var rfl)))))))))) ?_ h
  intro b P h
  simp only [decide_eq_true_eq, D.bind, D.pure, D.need, D.any, D.nox] at h ⊢
  obtain ⟨hl, h⟩ := h
  have hs : 1000000 ≤ sizeLine := by decide
  have c1 : ∀ lo hi, (cutS b.1 lo hi).length ≤ 60 := fun lo hi => Nat.le_trans (cutS_len b.1 lo hi) hl
  have more : ∀ (s : List Str) (n : Nat) (z : Str), (s.length ≤ n ∧ ∀ y ∈ s, y.length ≤ 130) → z.length ≤ 130 → (s ++ [z]).length ≤ n + 1 ∧ ∀ y ∈ s ++ [z], y.length ≤ 130 := fun s n z hI hz => ⟨by rw [List.length_append]; simp only [List.length_cons, List.length_nil]; omega, fun y hy => by
    rcases List.mem_append.mp hy with q | q
    · exact hI.2 y q
    · rw [List.mem_singleton.mp q]; exact hz⟩
  have l1 : (Str.ofString ",").length = 1 := by decide
  have l2 : (Str.ofString " ").length = 1 := by decide
  refine ⟨by omega, by omega, forD_ind (fun i s => s.length ≤ 1 + 5 * i ∧ ∀ z ∈ s, z.length ≤ 130) 61 _ 0 _ (by rw [rngL_len]; omega) ⟨Nat.le_refl 1, fun z hz => by rw [List.mem_singleton.mp hz]; omega⟩ (fun x hx i s hi hI k hk => ⟨by decide, fun r hr => at_draw hr fun c hc => ?_⟩) (fun i s hI => h s hI.2)⟩
  have lc : (⟨#[c]⟩ : Str).length = 1 := rfl
  have d1 := c1 none (some x)
  have d2 := c1 (some x) none
  have d3 := c1 (some (x + 1)) none
  have m1 := more s _ (cutS b.1 none (some x) ++ ⟨#[c]⟩ ++ cutS b.1 (some x) none) hI (by simp only [len_app]; omega)
  have m2 := more _ _ (cutS b.1 none (some x) ++ Str.ofString "," ++ cutS b.1 (some x) none) m1 (by simp only [len_app]; omega)
  have m3 := more _ _ (cutS b.1 none (some x) ++ Str.ofString " " ++ cutS b.1 (some x) none) m2 (by simp only [len_app]; omega)
  refine ⟨by omega, by rw [len_app]; omega, by omega, by omega, by rw [len_app]; omega, by have := m1.1; omega, by omega, by rw [len_app]; omega, by have := m2.1; omega, ite2 (fun e => ?_) (fun e => ?_)⟩
  · have m4 := more _ _ (cutS b.1 none (some x) ++ cutS b.1 (some (x + 1)) none) m3 (by simp only [len_app]; omega)
    have m5 := more _ _ (cutS b.1 none (some x) ++ ⟨#[c]⟩ ++ cutS b.1 (some (x + 1)) none) m4 (by simp only [len_app]; omega)
    exact ⟨by omega, by have := m3.1; omega, by omega, by rw [len_app]; omega, by have := m4.1; omega, hk _ ⟨by have := m5.1; omega, m5.2⟩⟩
  · exact hk _ ⟨by have := m3.1; omega, m3.2⟩
theorem ok_law_only (T : Txt K mg) : FnOk P w K mg base CX0 1 T.f_law_only T.fd_law_only ["_law_text", "_law_signs"] (spF0 (rsC rS (rsC rS rs0)) rB fun b => D.pure (inB b.2.1 b.1)) := by
  refine T.d_law_only.F.ok sc_law_only (fun vs H Q E h => ?_) (fun cdv A outer s H vs Q E hr h => ?_)
  · obtain ⟨I, b, P, s, rp, _⟩ := h
    exact (lenC (lenC len0)) _ _ _ _ rp
  refine ⟨_, (pss_one (ps_ret (pe_cmpR (eqDK K rfl hr.units) (pe_lc (own := [("_law_sign", 2)]) (g := gName 2) (by rfl) sc_law_only.nd (pi_str (pv 0)) (blkOk_by (own := [("_law_sign", 2)]) (N := ["_law_text", "_law_signs", "_law_sign"]) (sc := defScope s_law_only) (by decide +kernel)) (fun _ _ _ _ _ => (pg_name (i := 2) sc_law_only.nd rfl (Or.inl rfl))) (fun _ _ _ _ _ => (pts_one (pt_cmpR op_notIn_sign (pv 2) (pv 1) rfl))) (fun _ _ _ _ _ => (pv 2))) (pe_lst pa_nil) (nomark _)))), ?_⟩
  refine fn0 (K := K) (mg := mg) (N := ["_law_text", "_law_signs", "_law_sign"]) (prm_cons (prm_cons prm_nil)) (fun J I vs b h => by rw [(lenC (lenC len0)) J I vs b h]; decide) (Γn := fun _ _ => []) (Γl := fun _ _ => []) (fun _ => (sb_ret (se_op ro_eqD (se_lc (si_str (se_var rfl)) sg_name (by rfl) (by rfl) (fun _ => (st_test (se_op ro_notInC (se_var rfl) (se_var rfl)))) (fun _ => (SE.map co_sign (se_var rfl)))) (se_lstn (ln_nil (R := rS)))))) ?_ h
  intro b P h
  simp only [D.bind, D.pure, D.need, D.any, D.nox] at h ⊢
  refine compD_fun (fun c => !decide (c ∈ b.2.1.cps.toList)) (fun c => (⟨#[c]⟩ : Str)) _ _ _ (fun _ _ _ q => q) (fun _ _ _ _ q => q) ?_
  show P (decide _)
  rw [only_eq]
  exact h
theorem ok_law_word (T : Txt K mg) : FnOk P w K mg base CX0 2 T.f_law_word T.fd_law_word ["_law_piece_here", "_law_numbers", "_law_truths"] (spF0 (rsC rS (rsC (rL rS) (rsC (rL rS) rs0))) (rO (rTu K (rsC rS (rsC (rO rI) rs0)))) fun b => D.need (∀ x ∈ b.2.2.1, x ∉ b.2.1) (D.pure (lw1 b.2.1 b.2.2.1 (wordT (Txt.stripChars b.1 " "))))) := by
  refine T.d_law_word.F.ok sc_law_word (fun vs H Q E h => ?_) (fun cdv A outer s H vs Q E hr h => ?_)
  · obtain ⟨I, b, P, s, rp, _⟩ := h
    exact (lenC (lenC (lenC len0))) _ _ _ _ rp
  refine ⟨_, (pss_cons (ps_asg (pe_partition (bmK K rfl (pe_bm PySem.F.plainAttrs_str PySem.F.slot_str_strip PySem.F.type_str_strip mt_stripChars (pv 0) (pa_cons pe_str pa_nil))) pe_str) (pg_tup rfl (pgs_cons (pg_name (i := 3) sc_law_word.nd rfl (.inl rfl)) (pgs_cons (pg_name (i := 4) sc_law_word.nd rfl (.inl rfl)) (pgs_cons (pg_name (i := 5) sc_law_word.nd rfl (.inl rfl)) pgs_nil)))))
      (pss_cons (ps_if (PW.pt (pw_or (pt_cmpR op_eq (pv 3) pe_str (nomark _)) (pw_or (pt_cmpR op_gt (pe_callB call_len_str (by rfl) T.m_len (by decide +kernel) (pa_cons (pv 3) pa_nil)) pe_int (nomark _)) (pw_or1 (pt_not (pt_val (pe_call (ok_law_only T) (hr.mono (by decide)) (by rfl) T.d_law_only.g T.d_law_only.F.kp T.d_law_only.b .nil pass0 (pa_cons (pv 3) (pa_cons pe_str pa_nil)))))))))
      (pss_one (ps_ret pe_non))
      pss_nil)
      (pss_cons (ps_if (pt_cmpR op_eq (pv 4) pe_str (nomark _))
      (pss_one (ps_ret (pe_ix (ixLK K rfl) (pe_lst (pa_cons (pe_tup (pa_cons (pv 3) (pa_cons pe_non pa_nil))) (pa_cons pe_non pa_nil))) (pe_callTy call_int1 (by rfl) T.m_int (by decide +kernel) (pa_cons (pe_cmpR (inK K rfl) (pv 3) (pv 1) rfl) pa_nil)) (fun _ _ => rfl))))
      pss_nil)
      (pss_cons (ps_if (PW.pt (pw_or (pt_cmpR (inK K rfl) (pv 3) (pv 2) rfl) (pw_or (pt_cmpR op_eq (pv 5) pe_str (nomark _)) (pw_or1 (pt_not (pt_val (pe_call (ok_law_only T) (hr.mono (by decide)) (by rfl) T.d_law_only.g T.d_law_only.F.kp T.d_law_only.b .nil pass0 (pa_cons (pv 5) (pa_cons pe_str pa_nil)))))))))
      (pss_one (ps_ret pe_non))
      pss_nil)
      (pss_cons (ps_if (PW.pt (pw_or (pt_cmpR op_gt (pe_callB call_len_str (by rfl) T.m_len (by decide +kernel) (pa_cons (pv 5) pa_nil)) pe_int (nomark _)) (pw_or1 (PW.pt (pw_and (pt_cmpR op_eq (pe_ix ix_str (pv 5) pe_int (fun _ _ => rfl)) pe_str (nomark _)) (pw_and1 (pt_cmpR op_ne (pv 5) pe_str (nomark _))))))))
      (pss_one (ps_ret pe_non))
      pss_nil)
      (pss_one (ps_ret (pe_tup (pa_cons (pv 3) (pa_cons (pe_callTy call_int_str (by rfl) T.m_int (by decide +kernel) (pa_cons (pv 5) pa_nil)) pa_nil)))))))))), ?_⟩
  refine fn0 (K := K) (mg := mg) (N := ["_law_piece_here", "_law_numbers", "_law_truths", "_law_name", "_law_blank", "_law_figures"]) (prm_cons (prm_cons (prm_cons prm_nil))) (fun J I vs b h => by rw [(lenC (lenC (lenC len0))) J I vs b h]; decide) (Γn := fun _ _ => []) (Γl := fun _ _ => []) (fun _ => (sb_asg (sg_tup (sgs_cons (sgs_cons (sgs_cons sgs_nil))) (lenC (lenC (lenC len0)))) rfl (se_m1 ro_partition2 (se_bm ty_S ro_strip2 (se_var rfl) (sa_cons se_str sa_nil)) se_str) (fun _ =>
      (sb_ifq (st_orp (st_test (se_op ro_eqS (se_var rfl) se_str)) (st_orp (st_test (se_op ro_gt (se_cb ro_lenS (sa_cons (se_var rfl) sa_nil)) se_int)) (st_not (st_val (se_call0 (sa_cons (se_var rfl) (sa_cons se_str sa_nil)))))))
      (sb_ret se_noneO)
      (sb_ifq (st_test (se_op ro_eqS (se_var rfl) se_str))
      (sb_ret (se_op ro_ixL (se_lstn (ln_cons (SE.map co_some_tu (se_tu 2 (sa_cons (se_var rfl) (sa_cons se_noneO sa_nil)) (lenC (lenC len0)))) (ln_cons se_noneO ln_nil))) (se_cb ro_intB (sa_cons (se_op ro_inSL (se_var rfl) (se_var rfl)) sa_nil))))
      (sb_ifq (st_orp (st_test (se_op ro_inSL (se_var rfl) (se_var rfl))) (st_orp (st_test (se_op ro_eqS (se_var rfl) se_str)) (st_not (st_val (se_call0 (sa_cons (se_var rfl) (sa_cons se_str sa_nil)))))))
      (sb_ret se_noneO)
      (sb_ifq (st_or (st_test (se_op ro_gt (se_cb ro_lenS (sa_cons (se_var rfl) sa_nil)) se_int)) (st_and (st_test (se_op ro_eqS (se_op ro_ixS (se_var rfl) se_int) se_str)) (st_test (se_op ro_neS (se_var rfl) se_str))))
      (sb_ret se_noneO)
      (sb_ret (SE.map co_some_tu (se_tu 2 (sa_cons (se_var rfl) (sa_cons (SE.map co_some_int (se_cb ro_intS (sa_cons (se_var rfl) sa_nil))) sa_nil)) (lenC (lenC len0)))))))))))) ?_ h
  intro b P h
  simp only [decide_eq_true_eq, D.bind, D.pure, D.need, D.any, D.nox] at h ⊢
  unfold wordT at h
  generalize Txt.partition (Txt.stripChars b.1 (Str.ofString " ")) (Str.ofString " ") = pt at h ⊢
  obtain ⟨a, bl, f⟩ := pt
  obtain ⟨hd, h⟩ := h
  obtain ⟨z0, ns, ts, u⟩ := b
  dsimp only at hd h ⊢
  refine ⟨by decide, ?_⟩
  rw [nameB_eq]
  cases hn : nameB a with
  | false =>
    rw [hn] at h
    exact h
  | true =>
    rw [hn, if_pos rfl] at h
    refine ite2 (fun e => nomatch e) (fun _ => ite2 (fun e => ?_) (fun e => ?_))
    · rw [if_pos (show V.str bl = V.str (Str.ofString "") by rw [e])] at h
      have h' : P (if suitB ns ts (a, none) = true then some (toW (a, none)) else none) := h
      by_cases m : a ∈ ns
      · rw [if_pos m]
        refine ⟨none, rfl, ?_⟩
        rw [show suitB ns ts (a, none) = false by unfold suitB; rw [decide_eq_true m, if_pos rfl]; rfl, if_neg Bool.false_ne_true] at h'
        exact h'
      · rw [if_neg m]
        refine ⟨_, rfl, ?_⟩
        rw [show suitB ns ts (a, none) = true by unfold suitB; rw [decide_eq_false m, if_neg Bool.false_ne_true, Bool.or_eq_true]; exact .inr rfl, if_pos rfl] at h'
        exact h'
    · rw [if_neg (show ¬ V.str bl = V.str (Str.ofString "") from fun q => e (V.str.inj q))] at h
      have bad : figB f = false → P none := fun q => by
        rw [q, if_neg Bool.false_ne_true] at h
        exact h
      refine ite2 (fun e1 => ?_) (fun e1 => ?_)
      · cases hf : figB f with
        | false => exact bad hf
        | true =>
          obtain ⟨n, hi, ln⟩ := fig_int hf
          rw [if_pos hf, hi] at h
          have hne : f ≠ Str.ofString "" := fun q => by rw [q] at hf; exact absurd hf (by decide)
          have hin : inB (Str.ofString "0123456789") f = true := by
            unfold figB ofB at hf
            simp only [Bool.and_eq_true, decide_eq_true_eq] at hf
            exact hf.1.2
          rw [decide_eq_false hne, hin, Bool.not_true, Bool.or_false, Bool.or_false] at e1
          have m : a ∈ ts := of_decide_eq_true e1
          have h' : P (if suitB ns ts (a, some (n : Int)) = true then some (toW (a, some (n : Int))) else none) := h
          rw [show suitB ns ts (a, some (n : Int)) = false by unfold suitB; rw [decide_eq_false (hd a m), if_neg Bool.false_ne_true, decide_eq_true m]; rfl, if_neg Bool.false_ne_true] at h'
          exact h'
      · rw [Bool.not_eq_true, Bool.or_eq_false_iff, Bool.or_eq_false_iff] at e1
        obtain ⟨e1, e2, e3⟩ := e1
        have m : a ∉ ts := of_decide_eq_false e1
        refine ite2 (fun e4 => ?_) (fun e4 => ?_)
        · rw [if_pos trivial]
          exact bad (figB_no f (by rw [e2, e3, decide_eq_true e4]; rfl))
        · obtain ⟨hne, hfg⟩ := figB_eq f (by rw [e2, e3, decide_eq_false e4]; rfl)
          obtain ⟨c, r, hc⟩ := List.exists_cons_of_ne_nil hne
          refine ⟨c, by rw [hc]; exact atI_nat (show (c :: r)[0]? = some c from rfl), ?_⟩
          have hdc : f.cps.toList.head? = some c := by rw [hc]; rfl
          have rest : figB f = true → ∃ n, intText? f = some n ∧ f.length ≤ 640 ∧ P (some ⟨(a, some n, ())⟩) := fun hf => by
            obtain ⟨n, hi, ln⟩ := fig_int hf
            rw [if_pos hf, hi] at h
            have h' : P (if suitB ns ts (a, some (n : Int)) = true then some (toW (a, some (n : Int))) else none) := h
            rw [show suitB ns ts (a, some (n : Int)) = true by unfold suitB; rw [decide_eq_false m]; split <;> rfl, if_pos rfl] at h'
            exact ⟨n, hi, by omega, h'⟩
          have h48 : (Str.ofString "0").cps.toList = [48] := by decide
          refine ite2 (fun e5 => ?_) (fun e5 => ?_)
          · have hc48 : c = 48 := by
              have : (⟨#[c]⟩ : Str).cps.toList = (Str.ofString "0").cps.toList := by rw [e5]
              rw [h48] at this
              simpa using this
            refine ite2 (fun e6 => ?_) (fun e6 => ?_)
            · have e0 : ¬ f = Str.ofString "0" := fun q => by
                rw [decide_eq_true q] at e6
                cases e6
              refine bad ?_
              rw [hfg]
              unfold nought
              rw [decide_eq_false (show ¬ f = "0" from e0), hdc, hc48]
              rfl
            · have e0 : f = Str.ofString "0" := by
                rw [Bool.not_eq_true, Bool.not_eq_false'] at e6
                exact of_decide_eq_true e6
              refine rest ?_
              rw [hfg]
              unfold nought
              rw [decide_eq_true (show f = "0" from e0)]
              rfl
          · rw [if_neg Bool.false_ne_true]
            refine rest ?_
            rw [hfg]
            unfold nought
            have : c ≠ 48 := fun q => e5 (PyProof.Rows.ext_toList (by rw [h48, q]))
            rw [hdc, decide_eq_false (show ¬ (some c = some 48) from fun q => this (Option.some.inj q)), Bool.not_false, Bool.or_true]
end
end My
namespace My
open PySem PySem.Spec PyProof.Rows L2 TL
open Lx hiding ints_of paired_app paired_at Wd
abbrev meN : TW → D Int := fun y => fun P _ => ∃ n, y.r.2.1 = some n ∧ P n
section
variable {P : Program} {w : World} {K : PySem.W.Frag} {mg : Str → Option Value} {base : Heap}
theorem ok_law_words (T : Txt K mg) : FnOk P w K mg base CX0 3 T.f_law_words T.fd_law_words ["_law_text", "_law_numbers", "_law_truths"] (spF0 (rsC rS (rsC (rL rS) (rsC (rL rS) rs0))) (rL (rO (rTu K (rsC rS (rsC (rO rI) rs0))))) fun b => D.need (b.1.length ≤ 20000 ∧ ∀ x ∈ b.2.2.1, x ∉ b.2.1) (D.pure ((wordsT b.1).map (lw1 b.2.1 b.2.2.1)))) := by
  refine T.d_law_words.F.ok sc_law_words (fun vs H Q E h => ?_) (fun cdv A outer s H vs Q E hr h => ?_)
  · obtain ⟨I, b, P, s, rp, _⟩ := h
    exact (lenC (lenC (lenC len0))) _ _ _ _ rp
  refine ⟨_, (pss_cons (ps_if (pt_cmpR op_eq (bmK K rfl (pe_bm PySem.F.plainAttrs_str PySem.F.slot_str_strip PySem.F.type_str_strip mt_stripChars (pv 0) (pa_cons pe_str pa_nil))) pe_str (nomark _))
      (pss_one (ps_ret (pe_lst pa_nil)))
      pss_nil)
      (pss_one (ps_ret (pe_lc (own := [("_law_piece_here", 3)]) (g := gName 3) (tt := tYes) (by rfl) sc_law_words.nd (pi_listK K rfl (pe_split (pv 0) pe_str)) (blkOk_by (own := [("_law_piece_here", 3)]) (N := ["_law_text", "_law_numbers", "_law_truths", "_law_piece_here"]) (sc := defScope s_law_words) (by decide +kernel)) (fun _ _ _ _ _ => (pg_name (i := 3) sc_law_words.nd rfl (Or.inl rfl))) (fun _ _ _ _ _ => pts_nil) (fun _ _ _ _ _ => (pe_call (ok_law_word T) (hr.mono (by decide)) (by rfl) T.d_law_word.g T.d_law_word.F.kp T.d_law_word.b .nil pass0 (pa_cons (pv 3) (pa_cons (pv 1) (pa_cons (pv 2) pa_nil))))))))), ?_⟩
  refine fn0 (K := K) (mg := mg) (N := ["_law_text", "_law_numbers", "_law_truths", "_law_piece_here"]) (prm_cons (prm_cons (prm_cons prm_nil))) (fun J I vs b h => by rw [(lenC (lenC (lenC len0))) J I vs b h]; decide) (Γn := fun _ _ => []) (Γl := fun _ _ => []) (fun _ => (sb_ifq (st_test (se_op ro_eqS (se_bm ty_S ro_strip2 (se_var rfl) (sa_cons se_str sa_nil)) se_str))
      (sb_ret (se_lstn (ln_nil (R := (rO (rTu K (rsC rS (rsC (rO rI) rs0))))))))
      (sb_ret (se_lc (si_list (se_m1 ro_split2 (se_var rfl) se_str)) sg_name (by rfl) (by rfl) (fun _ => st_yes) (fun _ => (se_call0 (sa_cons (se_var rfl) (sa_cons (se_var rfl) (sa_cons (se_var rfl) sa_nil))))))))) ?_ h
  intro b P h
  simp only [decide_eq_true_eq, D.bind, D.pure, D.need, D.any, D.nox] at h ⊢
  obtain ⟨⟨hl, hd⟩, h⟩ := h
  unfold wordsT at h
  refine ite2 (fun e => ?_) (fun e => ?_)
  · rw [if_pos (congrArg V.str e)] at h
    exact h
  · rw [if_neg (fun z => e (V.str.inj z))] at h
    refine ⟨⟨by decide, by decide, by decide +kernel, sz (by omega)⟩, compD_fun (fun _ => true) (fun z => lw1 b.2.1 b.2.2.1 (wordT (Txt.stripChars z (Str.ofString " ")))) _ _ _ (fun _ _ _ q => q) (fun _ _ _ _ q => ⟨hd, q⟩) ?_⟩
    rw [List.filter_eq_self.mpr (fun _ _ => rfl)]
    rw [List.map_map] at h
    exact h
theorem ok_law_least (T : Txt K mg) : FnOk P w K mg base CX0 1 T.f_law_least T.fd_law_least ["_law_words_here", "_law_name", "_law_plain"] (spF0 (rsC (rL (rO (rTu K (rsC rS (rsC (rO rI) rs0))))) (rsC rS (rsC (rO rI) rs0))) (rO rI) fun b => fun P _ => ∃ ys : List TW, b.1 = ys.map some ∧ compD (fun y => D.pure (decide (y.r.1 = b.2.1))) meN ys (fun ns => P ((minI ns).or b.2.2.1)) fun _ => False) := by
  refine T.d_law_least.F.ok sc_law_least (fun vs H Q E h => ?_) (fun cdv A outer s H vs Q E hr h => ?_)
  · obtain ⟨I, b, P, s, rp, _⟩ := h
    exact (lenC (lenC (lenC len0))) _ _ _ _ rp
  refine ⟨_, (pss_one (ps_ret (pe_callBK (minDfK K rfl rfl hr.units) (by rfl) T.m_min (by decide +kernel) (pa_cons (pe_lc (own := [("_law_one", 3), ("_law_number", 4)]) (g := gTup K 2 (gCons (gName 3) (gCons (gName 4) gNil))) (by rfl) sc_law_least.nd (pi_listK K rfl (pv 0)) (blkOk_by (own := [("_law_one", 3), ("_law_number", 4)]) (N := ["_law_words_here", "_law_name", "_law_plain", "_law_one", "_law_number"]) (sc := defScope s_law_least) (by decide +kernel)) (fun _ _ _ _ _ => (pg_tup rfl (pgs_cons (pg_name (i := 3) sc_law_least.nd rfl (Or.inl rfl)) (pgs_cons (pg_name (i := 4) sc_law_least.nd rfl (Or.inl rfl)) pgs_nil)))) (fun _ _ _ _ _ => (pts_one (pt_cmpR op_eq (pv 3) (pv 1) (nomark _)))) (fun _ _ _ _ _ => (pv 4))) pa_nil) (pk_cons (pv 2) pk_nil)))), ?_⟩
  refine fn0 (K := K) (mg := mg) (N := ["_law_words_here", "_law_name", "_law_plain", "_law_one", "_law_number"]) (prm_cons (prm_cons (prm_cons prm_nil))) (fun J I vs b h => by rw [(lenC (lenC (lenC len0))) J I vs b h]; decide) (Γn := fun _ _ => []) (Γl := fun _ _ => []) (fun _ => (sb_ret (se_ck ro_dfO (sa_cons (se_lc (si_list (SE.getAll (se_var rfl))) (sg_tup (sgs_cons (sgs_cons sgs_nil)) (lenC (lenC len0))) (by rfl) (by rfl) (fun _ => (st_test (se_op ro_eqS (se_var rfl) (se_var rfl)))) (fun _ => (SE.get (se_var rfl)))) sa_nil) (sa_cons (se_var rfl) sa_nil)))) ?_ h
  intro b P h
  simp only [decide_eq_true_eq, D.bind, D.pure, D.need, D.any, D.nox] at h ⊢
  exact h
end
end My
namespace My
open PySem PySem.Spec PyProof.Rows L2 TL
open Lx hiding ints_of paired_app paired_at Wd
def fieldsR (r : RuleR) : List PyData := [.int r.keep, .int r.worn, .int r.alone, .bool r.anew, .bool r.own, .bool r.common, .bool r.never, .bool r.strict]
def fieldsW (r : WishR) : List PyData := [encO PyData.int r.atmost, .int r.left, .int r.worn, .bool r.anew, .bool r.kept, .bool r.firm]
def askG (ns ts : List Str) (f : List Wd → List PyData) (ws : List (Option Wd)) : PyData := match wrongAt ns ts ws with
  | some i => .tuple [.str "refused", .int (i : Int)]
  | none => .tuple [.str "told", .list (f (ws.filterMap id))]
def askR (z : Str) : PyData := askG rNs rTs (fun ds => fieldsR (ruleOf ds)) (wordsT z)
def askW (z : Str) : PyData := askG wNs wTs (fun ds => fieldsW (wishOf ds)) (wordsT z)
abbrev idxN (a : List (Option TW)) : Nat := @List.idxOf _ instBEqOfDecidableEq none a
theorem lw1_none (ns ts : List Str) (u : Option Wd) : (@BEq.beq _ instBEqOfDecidableEq (lw1 ns ts u) none) = badB ns ts u := by
  cases u with
  | none => rfl
  | some d =>
    show (@BEq.beq _ instBEqOfDecidableEq (if suitB ns ts d = true then some (toW d) else none) none) = !suitB ns ts d
    cases suitB ns ts d <;> rfl
theorem wrong_idx (ns ts : List Str) : ∀ (ws : List (Option Wd)) (i : Nat), wrongAt ns ts ws = some i → none ∈ ws.map (lw1 ns ts) ∧ idxN (ws.map (lw1 ns ts)) = i
  | [], i, h => nomatch h
  | u :: r, i, h => by
    unfold wrongAt at h
    rw [List.findIdx?_cons] at h
    have hu := lw1_none ns ts u
    show none ∈ lw1 ns ts u :: r.map (lw1 ns ts) ∧ List.findIdx (fun y => @BEq.beq _ instBEqOfDecidableEq y none) (lw1 ns ts u :: r.map (lw1 ns ts)) = i
    rw [List.findIdx_cons, hu]
    cases hb : badB ns ts u with
    | true =>
      rw [hb] at h hu
      cases h
      refine ⟨?_, rfl⟩
      rw [show lw1 ns ts u = none from by simpa using hu]
      exact List.mem_cons_self ..
    | false =>
      rw [hb] at h
      rw [if_neg Bool.false_ne_true] at h
      obtain ⟨k, hk, rfl⟩ := Option.map_eq_some_iff.mp h
      obtain ⟨h1, h2⟩ := wrong_idx ns ts r k hk
      refine ⟨List.mem_cons_of_mem _ h1, ?_⟩
      have h2' : List.findIdx (fun y => @BEq.beq _ instBEqOfDecidableEq y none) (r.map (lw1 ns ts)) = k := h2
      rw [h2']
      rfl
theorem lw_right {ns ts : List Str} {ds : List Wd} (hs : ∀ d ∈ ds, suitB ns ts d = true) : (ds.map some).map (lw1 ns ts) = (ds.map toW).map some := by
  rw [List.map_map, List.map_map]
  refine List.map_congr_left fun d hd => ?_
  show (if suitB ns ts d = true then some (toW d) else none) = some (toW d)
  rw [if_pos (hs d hd)]
theorem suit_num {ns ts : List Str} {ds : List Wd} (hs : ∀ d ∈ ds, suitB ns ts d = true) {name : Str} (hn : name ∈ ns) : ∀ d ∈ ds, d.1 = name → d.2 = some (d.2.getD 0) := fun d hd e => by
  have h1 := hs d hd
  unfold suitB at h1
  rw [e, if_pos (decide_eq_true hn)] at h1
  obtain ⟨i, hi⟩ := Option.isSome_iff_exists.mp h1
  rw [hi]
  rfl
theorem nums_are {ns ts : List Str} {ds : List Wd} (hs : ∀ d ∈ ds, suitB ns ts d = true) {name : Str} (hn : name ∈ ns) : (((ds.map toW).filter fun y => decide (y.r.1 = name)).map fun y => y.r.2.1.getD 0) = intsT name ds := by
  obtain ⟨is, e⟩ := nums_some hs hn
  rw [ints_of e]
  have h2 : (((ds.map toW).filter fun y => decide (y.r.1 = name)).map fun y => y.r.2.1.getD 0) = (numsT name ds).map (·.getD 0) := by
    unfold numsT
    rw [List.filter_map, List.map_map, List.map_map]
    rfl
  rw [h2, e, List.map_map]
  exact List.map_id' is
theorem told_are {ns ts : List Str} (hdis : ∀ x ∈ ts, x ∉ ns) {ds : List Wd} (hs : ∀ d ∈ ds, suitB ns ts d = true) {name : Str} (hn : name ∈ ts) : decide (name ∈ (ds.map toW).map fun y => y.r.1) = toldT name ds := by
  have h0 : name ∉ ns := hdis name hn
  unfold toldT
  rw [Bool.eq_iff_iff, decide_eq_true_iff, List.any_eq_true, List.map_map, List.mem_map]
  constructor
  · rintro ⟨d, hd, e⟩
    have e' : d.1 = name := e
    refine ⟨d, hd, ?_⟩
    have h1 := hs d hd
    unfold suitB at h1
    rw [e', decide_eq_false h0, if_neg Bool.false_ne_true, decide_eq_true hn] at h1
    rw [e', decide_eq_true rfl]
    simpa using h1
  · rintro ⟨d, hd, e⟩
    rw [Bool.and_eq_true, decide_eq_true_iff] at e
    exact ⟨d, hd, e.1⟩
theorem none_not {α : Type} (ys : List α) : (none : Option α) ∉ ys.map some := fun h => by
  obtain ⟨y, _, e⟩ := List.mem_map.mp h
  cases e
theorem num_comp {ns ts : List Str} {ds : List Wd} (hs : ∀ d ∈ ds, suitB ns ts d = true) {name : Str} (hn : name ∈ ns) (Q : List Int → Prop) (X : Ex → Prop) (q : Q (intsT name ds)) : compD (fun y : TW => D.pure (decide (y.r.1 = name))) meN (ds.map toW) Q X :=
  compD_fun (fun y => decide (y.r.1 = name)) (fun y => y.r.2.1.getD 0) Q X _ (fun _ _ _ q => q) (fun y hy e Q q => by
    obtain ⟨d, hd, rfl⟩ := List.mem_map.mp hy
    exact ⟨_, suit_num hs hn d hd (of_decide_eq_true e), q⟩) (by rw [nums_are hs hn]; exact q)
def restR (a : List (Option TW)) (P : PyData → Prop) : Prop :=
  ∃ ys : List TW, a = List.map some ys ∧
    compD (fun _ => D.pure true) (fun (x : Str) (P : Option Int → Prop) _ => ∃ ys : List TW, a = List.map some ys ∧ compD (fun y => D.pure (decide (y.r.1 = x))) meN ys (fun ns => P ((minI ns).or (some 0))) fun _ => False) [Str.ofString "keep", Str.ofString "worn", Str.ofString "alone"] (fun fs =>
      (List.map (encO PyData.int) fs).length + (List.map PyData.bool (List.map (fun x => decide (x ∈ List.map (fun x : TW => x.r.1) ys)) [Str.ofString "anew", Str.ofString "own", Str.ofString "common", Str.ofString "never", Str.ofString "strict"])).length ≤ sizeLine ∧ P (.tuple [.str "told", .list (List.map (encO PyData.int) fs ++ List.map PyData.bool (List.map (fun x => decide (x ∈ List.map (fun x : TW => x.r.1) ys)) [Str.ofString "anew", Str.ofString "own", Str.ofString "common", Str.ofString "never", Str.ofString "strict"]))])) fun _ => False
def tailG (rest : List (Option TW) → (PyData → Prop) → Prop) (a : List (Option TW)) (P : PyData → Prop) : Prop :=
  if decide (none ∈ a) = true then none ∈ a ∧ P (.tuple [.str "refused", .int (idxN a : Int)]) else rest a P
theorem tail_ok {ns ts : List Str} {f : List Wd → List PyData} {rest : List (Option TW) → (PyData → Prop) → Prop} {P : PyData → Prop} {ws : List (Option Wd)} (h : P (askG ns ts f ws)) (hr : ∀ ds : List Wd, (∀ d ∈ ds, suitB ns ts d = true) → P (.tuple [.str "told", .list (f ds)]) → rest ((ds.map toW).map some) P) : tailG rest (ws.map (lw1 ns ts)) P := by
  unfold tailG
  unfold askG at h
  cases hw : wrongAt ns ts ws with
  | some i =>
    rw [hw] at h
    obtain ⟨h1, h2⟩ := wrong_idx ns ts ws i hw
    rw [if_pos (decide_eq_true h1), h2]
    exact ⟨h1, h⟩
  | none =>
    rw [hw] at h
    obtain ⟨ds, rfl, hs⟩ := right_all _ _ _ hw
    rw [lw_right hs, if_neg (fun z => none_not _ (of_decide_eq_true z))]
    have hf : (ds.map some).filterMap id = ds := by
      rw [List.filterMap_map]
      exact List.filterMap_some
    rw [hf] at h
    exact hr ds hs h
theorem or_zero (o : Option Int) : encO PyData.int (o.or (some 0)) = .int (o.getD 0) := by cases o <;> rfl
theorem or_none (o : Option Int) : o.or none = o := by cases o <;> rfl
theorem rest_rule {P : PyData → Prop} (ds : List Wd) (hs : ∀ d ∈ ds, suitB rNs rTs d = true) (h : P (.tuple [.str "told", .list (fieldsR (ruleOf ds))])) : restR ((ds.map toW).map some) P := by
  refine ⟨_, rfl, ?_⟩
  refine compD_fun (fun _ => true) (fun x => (minI (intsT x ds)).or (some 0)) _ _ _ (fun _ _ _ q => q) (fun x hx _ Q q => ⟨_, rfl, num_comp hs (show x ∈ rNs from hx) _ _ q⟩) ?_
  rw [List.filter_eq_self.mpr (fun _ _ => rfl)]
  refine ⟨by show 3 + 5 ≤ sizeLine; decide, ?_⟩
  have t := fun name hn => told_are (show ∀ x ∈ rTs, x ∉ rNs by decide) hs (name := name) hn
  have e : List.map (encO PyData.int) (List.map (fun x => (minI (intsT x ds)).or (some 0)) [Str.ofString "keep", Str.ofString "worn", Str.ofString "alone"]) ++ List.map PyData.bool (List.map (fun x => decide (x ∈ (ds.map toW).map fun y => y.r.1)) [Str.ofString "anew", Str.ofString "own", Str.ofString "common", Str.ofString "never", Str.ofString "strict"]) = fieldsR (ruleOf ds) := by
    simp only [List.map_cons, List.map_nil, or_zero]
    rw [show decide (Str.ofString "anew" ∈ (ds.map toW).map fun y => y.r.1) = toldT "anew" ds from t "anew" (by decide), show decide (Str.ofString "own" ∈ (ds.map toW).map fun y => y.r.1) = toldT "own" ds from t "own" (by decide), show decide (Str.ofString "common" ∈ (ds.map toW).map fun y => y.r.1) = toldT "common" ds from t "common" (by decide), show decide (Str.ofString "never" ∈ (ds.map toW).map fun y => y.r.1) = toldT "never" ds from t "never" (by decide), show decide (Str.ofString "strict" ∈ (ds.map toW).map fun y => y.r.1) = toldT "strict" ds from t "strict" (by decide)]
    rfl
  rw [e]
  exact h
def restW (a : List (Option TW)) (P : PyData → Prop) : Prop :=
  ∃ ys : List TW, a = List.map some ys ∧ compD (fun _ => D.pure true) (fun y => D.pure y.r.1) ys (fun nm =>
    ∃ ys : List TW, a = List.map some ys ∧ compD (fun y => D.pure (decide (y.r.1 = Str.ofString "left"))) meN ys (fun n2 =>
    ∃ ys : List TW, a = List.map some ys ∧ compD (fun y => D.pure (decide (y.r.1 = Str.ofString "atmost"))) meN ys (fun n1 =>
    ∃ ys : List TW, a = List.map some ys ∧ compD (fun y => D.pure (decide (y.r.1 = Str.ofString "worn"))) meN ys (fun n3 =>
    compD (fun _ => D.pure true) (fun (x : Str) => D.pure (decide (x ∈ nm))) [Str.ofString "anew", Str.ofString "kept", Str.ofString "firm"] (fun bs =>
      (List.map (encO PyData.int) [(minI n1).or none, some ((maxI n2).getD 0), (minI n3).or (some 0)]).length + (List.map PyData.bool bs).length ≤ sizeLine ∧ P (.tuple [.str "told", .list (List.map (encO PyData.int) [(minI n1).or none, some ((maxI n2).getD 0), (minI n3).or (some 0)] ++ List.map PyData.bool bs)])) fun _ => False) fun _ => False) fun _ => False) fun _ => False) fun _ => False
theorem rest_wish {P : PyData → Prop} (ds : List Wd) (hs : ∀ d ∈ ds, suitB wNs wTs d = true) (h : P (.tuple [.str "told", .list (fieldsW (wishOf ds))])) : restW ((ds.map toW).map some) P := by
  refine ⟨_, rfl, ?_⟩
  rw [compD_map]
  refine ⟨_, rfl, num_comp hs (name := "left") (by decide) _ _ ⟨_, rfl, num_comp hs (name := "atmost") (by decide) _ _ ⟨_, rfl, num_comp hs (name := "worn") (by decide) _ _ ?_⟩⟩⟩
  rw [compD_map]
  refine ⟨by show 3 + 3 ≤ sizeLine; decide, ?_⟩
  have t := fun name hn => told_are (show ∀ x ∈ wTs, x ∉ wNs by decide) hs (name := name) hn
  have e : List.map (encO PyData.int) [(minI (intsT "atmost" ds)).or none, some ((maxI (intsT "left" ds)).getD 0), (minI (intsT "worn" ds)).or (some 0)] ++ List.map PyData.bool (List.map (fun x => decide (x ∈ (ds.map toW).map fun y => y.r.1)) [Str.ofString "anew", Str.ofString "kept", Str.ofString "firm"]) = fieldsW (wishOf ds) := by
    simp only [List.map_cons, List.map_nil, or_zero, or_none]
    rw [show decide (Str.ofString "anew" ∈ (ds.map toW).map fun y => y.r.1) = toldT "anew" ds from t "anew" (by decide), show decide (Str.ofString "kept" ∈ (ds.map toW).map fun y => y.r.1) = toldT "kept" ds from t "kept" (by decide), show decide (Str.ofString "firm" ∈ (ds.map toW).map fun y => y.r.1) = toldT "firm" ds from t "firm" (by decide)]
    rfl
  rw [e]
  exact h
theorem dI {p : Prop} {i j : Decidable p} (h : @decide p i = true) : @decide p j = true := @decide_eq_true p j (@of_decide_eq_true p i h)
theorem eqI {α : Type} {x y : α} (h : x = y) : x = y := h
theorem pb {α β : Type} (a : α) (f : α → D β) : D.bind (D.pure a) f = f a := eqI (by rfl)
theorem papp {α : Type} (a : α) (k : α → Prop) (X : Ex → Prop) : D.pure a k X = k a := by
  have h : D.pure a k X = k a := by rfl
  exact h
section
variable {P : Program} {w : World} {K : PySem.W.Frag} {mg : Str → Option Value} {base : Heap}
theorem ok_law_rule (T : Txt K mg) : FnOk P w K mg base CX0 4 T.f_law_rule T.fd_law_rule ["_law_text"] (spF0 (rsC rS rs0) (rD K) fun b => D.need (b.1.length ≤ 20000) (D.pure (askR b.1))) := by
  refine T.d_law_rule.F.ok sc_law_rule (fun vs H Q E h => ?_) (fun cdv A outer s H vs Q E hr h => ?_)
  · obtain ⟨I, b, P, s, rp, _⟩ := h
    exact (lenC len0) _ _ _ _ rp
  refine ⟨_, (pss_cons (ps_set (i := 1) sc_law_rule.nd rfl (.inl rfl) (pe_lst (pa_cons pe_str (pa_cons pe_str (pa_cons pe_str (pa_cons pe_str (pa_cons pe_str pa_nil)))))))
      (pss_cons (ps_set (i := 2) sc_law_rule.nd rfl (.inr rfl) (pe_call (ok_law_words T) (hr.mono (by decide)) (by rfl) T.d_law_words.g T.d_law_words.F.kp T.d_law_words.b .nil pass0 (pa_cons (pv 0) (pa_cons (pe_lst (pa_cons pe_str (pa_cons pe_str (pa_cons pe_str pa_nil)))) (pa_cons (pv 1) pa_nil)))))
      (pss_cons (ps_if (pt_cmpR (inDK K rfl (u65 hr)) pe_non (pv 2) rfl)
      (pss_one (ps_ret (pe_tup (pa_cons pe_str (pa_cons (bmK K rfl (pe_bm PySem.F.plainAttrs_list PySem.F.slot_list_index PySem.F.type_list_index (idxDK K rfl (u65 hr)) (pv 2) (pa_cons pe_non pa_nil))) pa_nil)))))
      pss_nil)
      (pss_cons (ps_set (i := 3) sc_law_rule.nd rfl (.inr rfl) (pe_lc (own := [("_law_one", 5), ("_law_number", 6)]) (g := gTup K 2 (gCons (gName 5) (gCons (gName 6) gNil))) (tt := tYes) (by rfl) sc_law_rule.nd (pi_listK K rfl (pv 2)) (blkOk_by (own := [("_law_one", 5), ("_law_number", 6)]) (N := ["_law_text", "_law_truths", "_law_words_here", "_law_names", "_law_found", "_law_one", "_law_number", "_law_name"]) (sc := defScope s_law_rule) (by decide +kernel)) (fun _ _ _ _ _ => (pg_tup rfl (pgs_cons (pg_name (i := 5) sc_law_rule.nd rfl (Or.inl rfl)) (pgs_cons (pg_name (i := 6) sc_law_rule.nd rfl (Or.inl rfl)) pgs_nil)))) (fun _ _ _ _ _ => pts_nil) (fun _ _ _ _ _ => (pv 5))))
      (pss_cons (ps_setLc (i := 4) (own := [("_law_name", 7)]) (g := gName 7) (tt := tYes) (by rfl) sc_law_rule.nd rfl rfl (sw_true rfl rfl rfl (by decide +kernel)) (pi_listK K rfl (pe_lst (pa_cons pe_str (pa_cons pe_str (pa_cons pe_str pa_nil))))) (blkOk_by (own := [("_law_name", 7)]) (N := ["_law_text", "_law_truths", "_law_words_here", "_law_names", "_law_found", "_law_one", "_law_number", "_law_name"]) (sc := defScope s_law_rule) (by decide +kernel)) (fun _ _ _ _ _ => (pg_name (i := 7) sc_law_rule.nd rfl (Or.inl rfl))) (fun _ _ _ _ _ => pts_nil) (fun _ _ _ _ _ => (pe_call (ok_law_least T) (hr.mono (by decide)) (by rfl) T.d_law_least.g T.d_law_least.F.kp T.d_law_least.b .nil pass0 (pa_cons (pv 2) (pa_cons (pv 7) (pa_cons pe_int pa_nil))))))
      (pss_one (ps_ret (pe_tup (pa_cons pe_str (pa_cons (pe_op op_cat (pv 4) (pe_lc (own := [("_law_name", 7)]) (g := gName 7) (tt := tYes) (by rfl) sc_law_rule.nd (pi_listK K rfl (pv 1)) (blkOk_by (own := [("_law_name", 7)]) (N := ["_law_text", "_law_truths", "_law_words_here", "_law_names", "_law_found", "_law_one", "_law_number", "_law_name"]) (sc := defScope s_law_rule) (by decide +kernel)) (fun _ _ _ _ _ => (pg_name (i := 7) sc_law_rule.nd rfl (Or.inl rfl))) (fun _ _ _ _ _ => pts_nil) (fun _ _ _ _ _ => (pe_cmpR (inK K rfl) (pv 7) (pv 3) rfl)))) pa_nil)))))))))), ?_⟩
  refine fn0 (K := K) (mg := mg) (N := ["_law_text", "_law_truths", "_law_words_here", "_law_names", "_law_found", "_law_one", "_law_number", "_law_name"]) (prm_cons prm_nil) (fun J I vs b h => by rw [(lenC len0) J I vs b h]; decide) (Γn := fun _ _ => []) (Γl := fun _ _ => []) (fun _ => (sb_set (Nat.le_of_ble_eq_true rfl) (se_lstn (ln_cons se_str (ln_cons se_str (ln_cons se_str (ln_cons se_str (ln_cons se_str ln_nil)))))) (fun _ =>
      (sb_set (Nat.le_of_ble_eq_true rfl) (se_call0 (sa_cons (se_var rfl) (sa_cons (se_lstn (ln_cons se_str (ln_cons se_str (ln_cons se_str ln_nil)))) (sa_cons (se_var rfl) sa_nil)))) (fun _ =>
      (sb_ifq (st_test (se_op ro_inD se_noneO (se_var rfl)))
      (sb_ret (SE.toD (se_tu 2 (sa_cons se_str (sa_cons (se_bm ty_L ro_indexD (se_var rfl) (sa_cons se_noneO sa_nil)) sa_nil)) (lenC (lenC len0)))))
      (sb_set (Nat.le_of_ble_eq_true rfl) (se_lc (si_list (SE.getAll (se_var rfl))) (sg_tup (sgs_cons (sgs_cons sgs_nil)) (lenC (lenC len0))) (by rfl) (by rfl) (fun _ => st_yes) (fun _ => (se_var rfl))) (fun _ =>
      (sb_set (Nat.le_of_ble_eq_true rfl) (se_lc (si_list (se_lstn (ln_cons se_str (ln_cons se_str (ln_cons se_str ln_nil))))) sg_name (by rfl) (by rfl) (fun _ => st_yes) (fun _ => (se_call0 (sa_cons (se_var rfl) (sa_cons (se_var rfl) (sa_cons (SE.map co_some_int se_int) sa_nil)))))) (fun _ =>
      (sb_ret (SE.toD (se_tu 2 (sa_cons se_str (sa_cons (se_op ro_cat (SE.anyL (se_var rfl)) (SE.anyL (se_lc (si_list (se_var rfl)) sg_name (by rfl) (by rfl) (fun _ => st_yes) (fun _ => (se_op ro_inSL (se_var rfl) (se_var rfl)))))) sa_nil)) (lenC (lenC len0))))))))))))))) ?_ h
  intro b P h
  obtain ⟨hl, h⟩ := h
  refine ⟨⟨hl, (show ∀ x ∈ rTs, x ∉ rNs by decide)⟩, ?_⟩
  have h' : P (askG rNs rTs (fun ds => fieldsR (ruleOf ds)) (wordsT b.1)) := h
  have h2 : tailG restR ((wordsT b.1).map (lw1 rNs rTs)) P := tail_ok h' rest_rule
  change D.pure (List.map (lw1 rNs rTs) (wordsT b.1)) _ _
  generalize List.map (lw1 rNs rTs) (wordsT b.1) = a at h2 ⊢
  unfold tailG at h2
  simp only [pb, papp, compD_map]
  refine ite2 (fun e => ?_) (fun e => ?_)
  · rw [if_pos (dI e)] at h2
    exact h2
  · rw [if_neg (fun z => e (dI z))] at h2
    exact h2
theorem ok_law_wish (T : Txt K mg) : FnOk P w K mg base CX0 4 T.f_law_wish T.fd_law_wish ["_law_text"] (spF0 (rsC rS rs0) (rD K) fun b => D.need (b.1.length ≤ 20000) (D.pure (askW b.1))) := by
  refine T.d_law_wish.F.ok sc_law_wish (fun vs H Q E h => ?_) (fun cdv A outer s H vs Q E hr h => ?_)
  · obtain ⟨I, b, P, s, rp, _⟩ := h
    exact (lenC len0) _ _ _ _ rp
  refine ⟨_, (pss_cons (ps_set (i := 1) sc_law_wish.nd rfl (.inl rfl) (pe_lst (pa_cons pe_str (pa_cons pe_str (pa_cons pe_str pa_nil)))))
      (pss_cons (ps_set (i := 2) sc_law_wish.nd rfl (.inl rfl) (pe_call (ok_law_words T) (hr.mono (by decide)) (by rfl) T.d_law_words.g T.d_law_words.F.kp T.d_law_words.b .nil pass0 (pa_cons (pv 0) (pa_cons (pe_lst (pa_cons pe_str (pa_cons pe_str (pa_cons pe_str pa_nil)))) (pa_cons (pv 1) pa_nil)))))
      (pss_cons (ps_if (pt_cmpR (inDK K rfl (u65 hr)) pe_non (pv 2) rfl)
      (pss_one (ps_ret (pe_tup (pa_cons pe_str (pa_cons (bmK K rfl (pe_bm PySem.F.plainAttrs_list PySem.F.slot_list_index PySem.F.type_list_index (idxDK K rfl (u65 hr)) (pv 2) (pa_cons pe_non pa_nil))) pa_nil)))))
      pss_nil)
      (pss_cons (ps_set (i := 3) sc_law_wish.nd rfl (.inr rfl) (pe_lc (own := [("_law_one", 6), ("_law_number", 7)]) (g := gTup K 2 (gCons (gName 6) (gCons (gName 7) gNil))) (tt := tYes) (by rfl) sc_law_wish.nd (pi_listK K rfl (pv 2)) (blkOk_by (own := [("_law_one", 6), ("_law_number", 7)]) (N := ["_law_text", "_law_truths", "_law_words_here", "_law_names", "_law_most", "_law_found", "_law_one", "_law_number", "_law_name"]) (sc := defScope s_law_wish) (by decide +kernel)) (fun _ _ _ _ _ => (pg_tup rfl (pgs_cons (pg_name (i := 6) sc_law_wish.nd rfl (Or.inl rfl)) (pgs_cons (pg_name (i := 7) sc_law_wish.nd rfl (Or.inl rfl)) pgs_nil)))) (fun _ _ _ _ _ => pts_nil) (fun _ _ _ _ _ => (pv 6))))
      (pss_cons (ps_set (i := 4) sc_law_wish.nd rfl (.inl rfl) (pe_callBK (maxDfK K rfl rfl hr.units) (by rfl) T.m_max (by decide +kernel) (pa_cons (pe_lc (own := [("_law_one", 6), ("_law_number", 7)]) (g := gTup K 2 (gCons (gName 6) (gCons (gName 7) gNil))) (by rfl) sc_law_wish.nd (pi_listK K rfl (pv 2)) (blkOk_by (own := [("_law_one", 6), ("_law_number", 7)]) (N := ["_law_text", "_law_truths", "_law_words_here", "_law_names", "_law_most", "_law_found", "_law_one", "_law_number", "_law_name"]) (sc := defScope s_law_wish) (by decide +kernel)) (fun _ _ _ _ _ => (pg_tup rfl (pgs_cons (pg_name (i := 6) sc_law_wish.nd rfl (Or.inl rfl)) (pgs_cons (pg_name (i := 7) sc_law_wish.nd rfl (Or.inl rfl)) pgs_nil)))) (fun _ _ _ _ _ => (pts_one (pt_cmpR op_eq (pv 6) pe_str (nomark _)))) (fun _ _ _ _ _ => (pv 7))) pa_nil) (pk_cons pe_int pk_nil)))
      (pss_cons (ps_set (i := 5) sc_law_wish.nd rfl (.inl rfl) (pe_lst (pa_cons (pe_call (ok_law_least T) (hr.mono (by decide)) (by rfl) T.d_law_least.g T.d_law_least.F.kp T.d_law_least.b .nil pass0 (pa_cons (pv 2) (pa_cons pe_str (pa_cons pe_non pa_nil)))) (pa_cons (pv 4) (pa_cons (pe_call (ok_law_least T) (hr.mono (by decide)) (by rfl) T.d_law_least.g T.d_law_least.F.kp T.d_law_least.b .nil pass0 (pa_cons (pv 2) (pa_cons pe_str (pa_cons pe_int pa_nil)))) pa_nil)))))
      (pss_one (ps_ret (pe_tup (pa_cons pe_str (pa_cons (pe_op op_cat (pv 5) (pe_lc (own := [("_law_name", 8)]) (g := gName 8) (tt := tYes) (by rfl) sc_law_wish.nd (pi_listK K rfl (pv 1)) (blkOk_by (own := [("_law_name", 8)]) (N := ["_law_text", "_law_truths", "_law_words_here", "_law_names", "_law_most", "_law_found", "_law_one", "_law_number", "_law_name"]) (sc := defScope s_law_wish) (by decide +kernel)) (fun _ _ _ _ _ => (pg_name (i := 8) sc_law_wish.nd rfl (Or.inl rfl))) (fun _ _ _ _ _ => pts_nil) (fun _ _ _ _ _ => (pe_cmpR (inK K rfl) (pv 8) (pv 3) rfl)))) pa_nil))))))))))), ?_⟩
  refine fn0 (K := K) (mg := mg) (N := ["_law_text", "_law_truths", "_law_words_here", "_law_names", "_law_most", "_law_found", "_law_one", "_law_number", "_law_name"]) (prm_cons prm_nil) (fun J I vs b h => by rw [(lenC len0) J I vs b h]; decide) (Γn := fun _ _ => []) (Γl := fun _ _ => []) (fun _ => (sb_set (Nat.le_of_ble_eq_true rfl) (se_lstn (ln_cons se_str (ln_cons se_str (ln_cons se_str ln_nil)))) (fun _ =>
      (sb_set (Nat.le_of_ble_eq_true rfl) (se_call0 (sa_cons (se_var rfl) (sa_cons (se_lstn (ln_cons se_str (ln_cons se_str (ln_cons se_str ln_nil)))) (sa_cons (se_var rfl) sa_nil)))) (fun _ =>
      (sb_ifq (st_test (se_op ro_inD se_noneO (se_var rfl)))
      (sb_ret (SE.toD (se_tu 2 (sa_cons se_str (sa_cons (se_bm ty_L ro_indexD (se_var rfl) (sa_cons se_noneO sa_nil)) sa_nil)) (lenC (lenC len0)))))
      (sb_set (Nat.le_of_ble_eq_true rfl) (se_lc (si_list (SE.getAll (se_var rfl))) (sg_tup (sgs_cons (sgs_cons sgs_nil)) (lenC (lenC len0))) (by rfl) (by rfl) (fun _ => st_yes) (fun _ => (se_var rfl))) (fun _ =>
      (sb_set (Nat.le_of_ble_eq_true rfl) (se_ck ro_df (sa_cons (se_lc (si_list (SE.getAll (se_var rfl))) (sg_tup (sgs_cons (sgs_cons sgs_nil)) (lenC (lenC len0))) (by rfl) (by rfl) (fun _ => (st_test (se_op ro_eqS (se_var rfl) se_str))) (fun _ => (SE.get (se_var rfl)))) sa_nil) (sa_cons se_int sa_nil)) (fun _ =>
      (sb_set (Nat.le_of_ble_eq_true rfl) (se_lstn (ln_cons (se_call0 (sa_cons (se_var rfl) (sa_cons se_str (sa_cons se_noneO sa_nil)))) (ln_cons (SE.map co_some_int (se_var rfl)) (ln_cons (se_call0 (sa_cons (se_var rfl) (sa_cons se_str (sa_cons (SE.map co_some_int se_int) sa_nil)))) ln_nil)))) (fun _ =>
      (sb_ret (SE.toD (se_tu 2 (sa_cons se_str (sa_cons (se_op ro_cat (SE.anyL (se_var rfl)) (SE.anyL (se_lc (si_list (se_var rfl)) sg_name (by rfl) (by rfl) (fun _ => st_yes) (fun _ => (se_op ro_inSL (se_var rfl) (se_var rfl)))))) sa_nil)) (lenC (lenC len0))))))))))))))))) ?_ h
  intro b P h
  obtain ⟨hl, h⟩ := h
  refine ⟨⟨hl, (show ∀ x ∈ wTs, x ∉ wNs by decide)⟩, ?_⟩
  have h' : P (askG wNs wTs (fun ds => fieldsW (wishOf ds)) (wordsT b.1)) := h
  have h2 : tailG restW ((wordsT b.1).map (lw1 wNs wTs)) P := tail_ok h' rest_wish
  change D.pure (List.map (lw1 wNs wTs) (wordsT b.1)) _ _
  generalize List.map (lw1 wNs wTs) (wordsT b.1) = a at h2 ⊢
  unfold tailG at h2
  simp -implicitDefEqProofs only [decide_eq_true_eq, D.bind, D.pure, D.need, D.any, D.nox] at h2 ⊢
  refine ite2 (fun e => ?_) (fun e => ?_)
  · rw [if_pos e] at h2
    exact h2
  · rw [if_neg e] at h2
    exact h2
end
end My
namespace My
open PySem PySem.Spec PyProof.Rows L2 TL
open Lx hiding ints_of paired_app paired_at Wd
/-- what is immutable, and all that is new -/
def midI (I H H' : Hp) : Hp := fun b => if H b = none then H' b else I b
theorem mid_new {I H H' : Hp} {b : Addr} (h : H b = none) : midI I H H' b = H' b := if_pos h
theorem mid_old {I H H' : Hp} {b : Addr} (h : H b ≠ none) : midI I H H' b = I b := if_neg h
theorem gw_mid {I H H' : Hp} (s : Same I H) (t : Same H H') : Gw I H (midI I H H') H' :=
  ⟨fun b o e => by rw [mid_old (Lx.nn (s _ _ e))]; exact e, fun b o e => by
    by_cases q : H b = none
    · rw [mid_new q] at e
      exact e
    · rw [mid_old q] at e
      exact t _ _ (s _ _ e), t, fun b h => mid_old h⟩
theorem askG_told {ns ts : List Str} {f : List Wd → List PyData} {ws : List (Option Wd)} {ds : List Wd} (hw : ws = ds.map some) (hs : ∀ d ∈ ds, suitB ns ts d = true) : askG ns ts f ws = .tuple [.str "told", .list (f ds)] := by
  have hwr : wrongAt ns ts ws = none := by
    cases h : wrongAt ns ts ws with
    | none => rfl
    | some i =>
      obtain ⟨h1, _⟩ := wrong_idx _ _ _ _ h
      rw [hw, lw_right hs] at h1
      exact absurd h1 (none_not _)
  unfold askG
  rw [hwr, hw]
  have hf : (ds.map some).filterMap id = ds := by
    rw [List.filterMap_map]
    exact List.filterMap_some
  rw [hf]
theorem ask_rule (z : Str) (ds : List Wd) : PyData.canLay0 (.tuple [.str "told", .list (fieldsR (ruleOf ds))]) = true := by
  have s2 : PyData.strOk (Str.ofString "told") = true := ok_asc (by decide)
  simp [PyData.canLay0, PyData.canLayAll0, fieldsR, s2]
theorem ask_wish (z : Str) (ds : List Wd) : PyData.canLay0 (.tuple [.str "told", .list (fieldsW (wishOf ds))]) = true := by
  have s2 : PyData.strOk (Str.ofString "told") = true := ok_asc (by decide)
  have hA : ∀ o : Option Int, (encO PyData.int o).canLay0 = true := fun o => by cases o <;> simp [encO, PyData.canLay0]
  simp [PyData.canLay0, PyData.canLayAll0, fieldsW, s2, hA]
theorem ask_refused (i : Nat) : PyData.canLay0 (.tuple [.str "refused", .int (i : Int)]) = true := by
  have s1 : PyData.strOk (Str.ofString "refused") = true := ok_asc (by decide)
  simp [PyData.canLay0, PyData.canLayAll0, s1]
theorem dp_oV {K : PySem.W.Frag} {I : Hp} (o : Option Int) : Dp K I (oV o) (encO PyData.int o) := by
  cases o with
  | none => exact .non
  | some n => exact .int n
theorem askR_ok (z : Str) : (askR z).depth ≤ 60 ∧ (askR z).canLay0 = true := by
  unfold askR askG
  have s1 : PyData.strOk (Str.ofString "refused") = true := ok_asc (by decide)
  have s2 : PyData.strOk (Str.ofString "told") = true := ok_asc (by decide)
  split
  · simp [PyData.depth, PyData.depthAll, PyData.canLay0, PyData.canLayAll0, s1]
  · simp [PyData.depth, PyData.depthAll, PyData.canLay0, PyData.canLayAll0, fieldsR, s2]
theorem askW_ok (z : Str) : (askW z).depth ≤ 60 ∧ (askW z).canLay0 = true := by
  unfold askW askG
  have s1 : PyData.strOk (Str.ofString "refused") = true := ok_asc (by decide)
  have s2 : PyData.strOk (Str.ofString "told") = true := ok_asc (by decide)
  have hA : ∀ o : Option Int, (encO PyData.int o).depth = 0 ∧ (encO PyData.int o).canLay0 = true := fun o => by cases o <;> simp [encO, PyData.depth, PyData.canLay0]
  split
  · simp [PyData.depth, PyData.depthAll, PyData.canLay0, PyData.canLayAll0, s1]
  · simp [PyData.depth, PyData.depthAll, PyData.canLay0, PyData.canLayAll0, fieldsW, s2, hA]
section
variable {P : Program} {w : World} {K : PySem.W.Frag} {mg : Str → Option Value} {base : Heap}
theorem ok_law_told_rule (T : Txt K mg) : FnOk P w K mg base CX0 6 T.f_law_told_rule T.fd_law_told_rule ["_law_text"] (spF0 (rsC rS rs0) (rD K) fun b => D.need (b.1.length ≤ 20000) (D.pure (askR b.1))) := by
  refine T.d_law_told_rule.F.ok sc_law_told_rule (fun vs H Q E h => ?_) (fun cdv A outer s H vs Q E hr h => ?_)
  · obtain ⟨I, b, P, s, rp, _⟩ := h
    exact lenC len0 _ _ _ _ rp
  · obtain ⟨I, b, Pq, sI, ⟨v, r, rfl, hv, hr0⟩, ⟨hl, hp⟩, q⟩ := h
    cases (show r = [] from hr0)
    obtain ⟨rfl, hasc, _⟩ := hv
    generalize b.1 = z at hl hp hasc
    refine ⟨_, (pss_cons (ps_try_as (i := 2) rfl rfl sc_law_told_rule.nd rfl rfl ⟨rfl, by decide, .inl T.g_NoRule⟩ takes0 (fun W pn xe tk _ =>
      (pss_one (ps_set (i := 1) sc_law_told_rule.nd rfl (.inl rfl) (by exact (pe_callS (ok_read_rule T) (hr.mono (by decide)) (by rfl) T.d_read_rule.g T.d_read_rule.F.kp T.d_read_rule.b (fun σ => passAt tk σ) (by exact (pa_cons (pv 0) pa_nil)))))))
      (fun a oe cls d pn hz hf => (pss_one (ps_ret (pe_tup (pa_cons pe_str (pa_cons (pe_xf T.xf_NoRule T.na_NoRule hz hf (pv 2)) pa_nil)))))))
      (pss_one (ps_ret (pe_tup (pa_cons pe_str (pa_cons (pe_lst (pa_cons (pe_fldK K rfl (pv 1) rfl) (pa_cons (pe_fldK K rfl (pv 1) rfl) (pa_cons (pe_fldK K rfl (pv 1) rfl) (pa_cons (pe_fldK K rfl (pv 1) rfl) (pa_cons (pe_fldK K rfl (pv 1) rfl) (pa_cons (pe_fldK K rfl (pv 1) rfl) (pa_cons (pe_fldK K rfl (pv 1) rfl) (pa_cons (pe_fldK K rfl (pv 1) rfl) pa_nil))))))))) pa_nil)))))), ?_⟩
    refine ⟨.str z, rfl, z, rfl, hl, fun ds hw hs p H1 hp1 s1 hat => ?_, fun i hw d H1 hd1 s1 hx => ?_⟩
    · have hp' : Pq (.tuple [.str "told", .list (fieldsR (ruleOf ds))]) := by
        have : Pq (askR z) := hp
        unfold askR at this
        rw [askG_told hw hs] at this
        exact this
      obtain ⟨dx, hat⟩ := hat
      have g1 := gw_mid sI s1
      refine ⟨.ref p, rfl, p, _, dx, _, _, rfl, hat, T.cl_Rule, T.n_Rule_keep, fR_keep _, .ref p, rfl, p, _, dx, _, _, rfl, hat, T.cl_Rule, T.n_Rule_worn, fR_worn _, .ref p, rfl, p, _, dx, _, _, rfl, hat, T.cl_Rule, T.n_Rule_alone, fR_alone _, .ref p, rfl, p, _, dx, _, _, rfl, hat, T.cl_Rule, T.n_Rule_anew, fR_anew _, .ref p, rfl, p, _, dx, _, _, rfl, hat, T.cl_Rule, T.n_Rule_own, fR_own _, .ref p, rfl, p, _, dx, _, _, rfl, hat, T.cl_Rule, T.n_Rule_common, fR_common _, .ref p, rfl, p, _, dx, _, _, rfl, hat, T.cl_Rule, T.n_Rule_never, fR_never _, .ref p, rfl, p, _, dx, _, _, rfl, hat, T.cl_Rule, T.n_Rule_strict, fR_strict _, by show 8 ≤ sizeLine; decide, fun l hl2 => ⟨by show 2 ≤ sizeLine; decide, fun t ht => ?_⟩⟩
      have g2 := Gw.new1 g1.sub hl2 (.lst [.int (ruleOf ds).keep, .int (ruleOf ds).worn, .int (ruleOf ds).alone, .bl (ruleOf ds).anew, .bl (ruleOf ds).own, .bl (ruleOf ds).common, .bl (ruleOf ds).never, .bl (ruleOf ds).strict])
      have g3 := Gw.new1 g2.sub ht (.tup [.str "told", .ref l])
      refine q _ _ _ _ hp' ((g1.trans g2).trans g3) ⟨.tup (SqT.of upd_same) (.cons (.str _) (.cons (Lx.Dp.mn g3.i (.lst (SqL.of upd_same) (.cons (.int _) (.cons (.int _) (.cons (.int _) (.cons (.bl _) (.cons (.bl _) (.cons (.bl _) (.cons (.bl _) (.cons (.bl _) .nil)))))))))) .nil)), ?_⟩
      exact (ask_rule z ds)
    · refine ⟨true, T.em_NoRule, fun _ a ha => ?_, fun q => Bool.noConfusion q⟩
      have hp' : Pq (.tuple [.str "refused", .int (i : Int)]) := by
        have : Pq (askR z) := hp
        unfold askR askG at this
        rw [hw] at this
        exact this
      have g1 := gw_mid sI s1
      refine ⟨.ref a, rfl, rfl, rfl, d, _, .int (i : Int), rfl, hx, rfl, by show 2 ≤ sizeLine; decide, fun t ht => ?_⟩
      have g3 := Gw.new1 g1.sub ht (.tup [.str "refused", .int (i : Int)])
      exact q _ _ _ _ hp' (g1.trans g3) ⟨.tup (SqT.of upd_same) (.cons (.str _) (.cons (.int _) .nil)), ask_refused i⟩
theorem ok_law_told_wish (T : Txt K mg) : FnOk P w K mg base CX0 6 T.f_law_told_wish T.fd_law_told_wish ["_law_text"] (spF0 (rsC rS rs0) (rD K) fun b => D.need (b.1.length ≤ 20000) (D.pure (askW b.1))) := by
  refine T.d_law_told_wish.F.ok sc_law_told_wish (fun vs H Q E h => ?_) (fun cdv A outer s H vs Q E hr h => ?_)
  · obtain ⟨I, b, P, s, rp, _⟩ := h
    exact lenC len0 _ _ _ _ rp
  · obtain ⟨I, b, Pq, sI, ⟨v, r, rfl, hv, hr0⟩, ⟨hl, hp⟩, q⟩ := h
    cases (show r = [] from hr0)
    obtain ⟨rfl, hasc, _⟩ := hv
    generalize b.1 = z at hl hp hasc
    refine ⟨_, (pss_cons (ps_try_as (i := 2) rfl rfl sc_law_told_wish.nd rfl rfl ⟨rfl, by decide, .inl T.g_NoWish⟩ takes0 (fun W pn xe tk _ =>
      (pss_one (ps_set (i := 1) sc_law_told_wish.nd rfl (.inl rfl) (by exact (pe_callS (ok_read_wish T) (hr.mono (by decide)) (by rfl) T.d_read_wish.g T.d_read_wish.F.kp T.d_read_wish.b (fun σ => passAt tk σ) (by exact (pa_cons (pv 0) pa_nil)))))))
      (fun a oe cls d pn hz hf => (pss_one (ps_ret (pe_tup (pa_cons pe_str (pa_cons (pe_xf T.xf_NoWish T.na_NoWish hz hf (pv 2)) pa_nil)))))))
      (pss_one (ps_ret (pe_tup (pa_cons pe_str (pa_cons (pe_lst (pa_cons (pe_fldK K rfl (pv 1) rfl) (pa_cons (pe_fldK K rfl (pv 1) rfl) (pa_cons (pe_fldK K rfl (pv 1) rfl) (pa_cons (pe_fldK K rfl (pv 1) rfl) (pa_cons (pe_fldK K rfl (pv 1) rfl) (pa_cons (pe_fldK K rfl (pv 1) rfl) pa_nil))))))) pa_nil)))))), ?_⟩
    refine ⟨.str z, rfl, z, rfl, hl, fun ds hw hs p H1 hp1 s1 hat => ?_, fun i hw d H1 hd1 s1 hx => ?_⟩
    · have hp' : Pq (.tuple [.str "told", .list (fieldsW (wishOf ds))]) := by
        have : Pq (askW z) := hp
        unfold askW at this
        rw [askG_told hw hs] at this
        exact this
      obtain ⟨dx, hat⟩ := hat
      have g1 := gw_mid sI s1
      refine ⟨.ref p, rfl, p, _, dx, _, _, rfl, hat, T.cl_Wish, T.n_Wish_atmost, fW_atmost _, .ref p, rfl, p, _, dx, _, _, rfl, hat, T.cl_Wish, T.n_Wish_left, fW_left _, .ref p, rfl, p, _, dx, _, _, rfl, hat, T.cl_Wish, T.n_Wish_worn, fW_worn _, .ref p, rfl, p, _, dx, _, _, rfl, hat, T.cl_Wish, T.n_Wish_anew, fW_anew _, .ref p, rfl, p, _, dx, _, _, rfl, hat, T.cl_Wish, T.n_Wish_kept, fW_kept _, .ref p, rfl, p, _, dx, _, _, rfl, hat, T.cl_Wish, T.n_Wish_firm, fW_firm _, by show 6 ≤ sizeLine; decide, fun l hl2 => ⟨by show 2 ≤ sizeLine; decide, fun t ht => ?_⟩⟩
      have g2 := Gw.new1 g1.sub hl2 (.lst [oV (wishOf ds).atmost, .int (wishOf ds).left, .int (wishOf ds).worn, .bl (wishOf ds).anew, .bl (wishOf ds).kept, .bl (wishOf ds).firm])
      have g3 := Gw.new1 g2.sub ht (.tup [.str "told", .ref l])
      refine q _ _ _ _ hp' ((g1.trans g2).trans g3) ⟨.tup (SqT.of upd_same) (.cons (.str _) (.cons (Lx.Dp.mn g3.i (.lst (SqL.of upd_same) (.cons (dp_oV _) (.cons (.int _) (.cons (.int _) (.cons (.bl _) (.cons (.bl _) (.cons (.bl _) .nil)))))))) .nil)), ?_⟩
      exact (ask_wish z ds)
    · refine ⟨true, T.em_NoWish, fun _ a ha => ?_, fun q => Bool.noConfusion q⟩
      have hp' : Pq (.tuple [.str "refused", .int (i : Int)]) := by
        have : Pq (askW z) := hp
        unfold askW askG at this
        rw [hw] at this
        exact this
      have g1 := gw_mid sI s1
      refine ⟨.ref a, rfl, rfl, rfl, d, _, .int (i : Int), rfl, hx, rfl, by show 2 ≤ sizeLine; decide, fun t ht => ?_⟩
      have g3 := Gw.new1 g1.sub ht (.tup [.str "refused", .int (i : Int)])
      exact q _ _ _ _ hp' (g1.trans g3) ⟨.tup (SqT.of upd_same) (.cons (.str _) (.cons (.int _) .nil)), ask_refused i⟩
theorem ok_law0 (T : Txt K mg) : FnOk P w K mg base CX0 7 T.f_law T.fd_law ["_law_script"] (spF0 (rsC (rScr K rI) rs0) rB fun b => D.pure true) := by
  refine T.d_law.F.ok sc_law (fun vs H Q E h => ?_) (fun cdv A outer s H vs Q E hr h => ?_)
  · obtain ⟨I, b, P, s, rp, _⟩ := h
    exact (lenC len0) _ _ _ _ rp
  refine ⟨_, (pss_cons (ps_for PassesOwn.never rfl (pi_listK K rfl (pe_op op_cat (pe_slice (slLK K rfl) (pv 0) po_none (po_some pe_int)) (pe_lst (pa_cons pe_int pa_nil)))) (pg_name (i := 1) sc_law.nd rfl (.inl rfl))
      (pss_cons (ps_set (i := 2) sc_law.nd rfl (.inr rfl) (pe_call (ok_law_well T) (hr.mono (by decide)) (by rfl) T.d_law_well.g T.d_law_well.F.kp T.d_law_well.b .nil pass0 (pa_cons (pv 1) pa_nil)))
      (pss_cons (ps_set (i := 3) sc_law.nd rfl (.inl rfl) (pe_op op_add pe_int (pe_call (ok_law_draw T) (hr.mono (by decide)) (by rfl) T.d_law_draw.g T.d_law_draw.F.kp T.d_law_draw.b .nil pass0 (pa_cons (pv 2) (pa_cons pe_int pa_nil)))))
      (pss_cons (ps_set (i := 4) sc_law.nd rfl (.inl rfl) (joinK K rfl (pe_join pe_str (pe_lc (own := [("_law_k", 6)]) (g := gName 6) (tt := tYes) (by rfl) sc_law.nd (pi_range1 (by rfl) T.m_range (pa_cons (pv 3) pa_nil)) (blkOk_by (own := [("_law_k", 6)]) (N := ["_law_script", "_law_cell", "_law_well_here", "_law_many", "_law_text", "_law_one", "_law_k"]) (sc := defScope s_law) (by decide +kernel)) (fun _ _ _ _ _ => (pg_name (i := 6) sc_law.nd rfl (Or.inl rfl))) (fun _ _ _ _ _ => pts_nil) (fun _ _ _ _ _ => (pe_call (ok_law_piece T) (hr.mono (by decide)) (by rfl) T.d_law_piece.g T.d_law_piece.F.kp T.d_law_piece.b .nil pass0 (pa_cons (pv 2) pa_nil)))))))
      (pss_one (ps_for PassesOwn.never rfl (pi_listK K rfl (pe_call (ok_law_near T) (hr.mono (by decide)) (by rfl) T.d_law_near.g T.d_law_near.F.kp T.d_law_near.b .nil pass0 (pa_cons (pv 2) (pa_cons (pv 4) pa_nil)))) (pg_name (i := 5) sc_law.nd rfl (.inl rfl))
      (pss_one (ps_if (PW.pt (pw_or (pt_cmpR (neDK K rfl hr.units) (pe_call (ok_law_told_rule T) (hr.mono (by decide)) (by rfl) T.d_law_told_rule.g T.d_law_told_rule.F.kp T.d_law_told_rule.b .nil pass0 (pa_cons (pv 5) pa_nil)) (pe_call (ok_law_rule T) (hr.mono (by decide)) (by rfl) T.d_law_rule.g T.d_law_rule.F.kp T.d_law_rule.b .nil pass0 (pa_cons (pv 5) pa_nil)) (nomark _)) (pw_or1 (pt_cmpR (neDK K rfl hr.units) (pe_call (ok_law_told_wish T) (hr.mono (by decide)) (by rfl) T.d_law_told_wish.g T.d_law_told_wish.F.kp T.d_law_told_wish.b .nil pass0 (pa_cons (pv 5) pa_nil)) (pe_call (ok_law_wish T) (hr.mono (by decide)) (by rfl) T.d_law_wish.g T.d_law_wish.F.kp T.d_law_wish.b .nil pass0 (pa_cons (pv 5) pa_nil)) (nomark _)))))
      (pss_one (ps_ret pe_bl))
      pss_nil))))))))
      (pss_one (ps_ret pe_bl))), ?_⟩
  refine fn0 (K := K) (mg := mg) (N := ["_law_script", "_law_cell", "_law_well_here", "_law_many", "_law_text", "_law_one", "_law_k"]) (prm_cons prm_nil) (fun J I vs b h => by rw [(lenC len0) J I vs b h]; decide) (Γn := fun _ _ => []) (Γl := fun _ _ => []) (fun _ => (sb_loop (s0 := ()) (fun s : Unit => [⟨.x, 2, ()⟩, ⟨.x, 3, ()⟩, ⟨.x, 4, ()⟩, ⟨.x, 5, ()⟩, ⟨.x, 1, ()⟩]) (si_list (se_op ro_cat (se_sl ro_slScr (se_var rfl) sp_none (sp_some se_int)) (se_lstn (ln_cons se_int ln_nil)))) sg_name rfl ⟨.inl rfl, .inl rfl, .inl rfl, .inl rfl, .inl rfl, trivial⟩ (fun _ s =>
      (sb_well (Nat.le_of_ble_eq_true rfl) (se_var rfl)
      (sb_set (Nat.le_of_ble_eq_true rfl) (se_op ro_add se_int (se_draw rfl se_int)) (fun _ =>
      (sb_set (Nat.le_of_ble_eq_true rfl) (se_m1 ro_join se_str (se_lc (si_rng1 (sa_cons (se_var rfl) sa_nil)) sg_name (by rfl) (by rfl) (fun _ => st_yes) (fun _ => (se_callW rfl sa_nil)))) (fun _ =>
      (sb_end (sb_loop (s0 := ()) (fun s : Unit => [⟨.x, 5, ()⟩]) (si_list (se_callW rfl (sa_cons (se_var rfl) sa_nil))) sg_name rfl ⟨.inl rfl, trivial⟩ (fun _ s =>
      (sb_if (st_or (st_test (se_op ro_neAny (se_call0 (sa_cons (se_var rfl) sa_nil)) (se_call0 (sa_cons (se_var rfl) sa_nil)))) (st_test (se_op ro_neAny (se_call0 (sa_cons (se_var rfl) sa_nil)) (se_call0 (sa_cons (se_var rfl) sa_nil)))))
      (sb_ret se_bl)
      (sb_nextK (ρ := fun s : Unit => [⟨.x, 5, ()⟩]) (s := ()) 2 rfl rfl ⟨.inl rfl, trivial⟩)))
      (fun s => (sb_nextK (ρ := fun s : Unit => [⟨.x, 2, ()⟩, ⟨.x, 3, ()⟩, ⟨.x, 4, ()⟩, ⟨.x, 5, ()⟩, ⟨.x, 1, ()⟩]) (s := ()) 10 rfl rfl ⟨.inl rfl, .inl rfl, .inl rfl, .inl rfl, .inl rfl, trivial⟩))))))))))
      (fun s => (sb_ret se_bl)))) ?_ h
  intro b P h
  simp only [decide_eq_true_eq, D.bind, D.pure, D.need, D.any, D.nox] at h ⊢
  have l2 : (Str.ofString ", ").length = 2 := by decide
  have hc : (cutL b.1.l none (some 4)).length ≤ 4 := by
    unfold cutL
    rw [List.length_take]
    show min (min 4 b.1.l.length - 0) _ ≤ 4
    omega
  refine ⟨sz (by simp only [List.length_cons, List.length_nil]; omega), forD_unit h fun x _ k hk => ⟨by decide, fun r hr => ⟨by omega, by omega, compD_each (m := 12) (fun x Q q => q) fun ys h1 h2 => ?_⟩⟩⟩
  have hm := Nat.mul_le_mul_right 12 (show (1 + r).toNat ≤ 3 by omega)
  have hsum : (ys.map (·.length)).sum + ys.length * (Str.ofString ", ").length ≤ 60 := by rw [l2]; omega
  refine ⟨by omega, join_le hsum, fun zs hz => forD_unit hk fun z hzm k2 hk2 => ?_⟩
  have hzl := hz z hzm
  refine ⟨by omega, by omega, ⟨(askR_ok z).1, (askR_ok z).1⟩, ?_⟩
  rw [SeqAt.eqv_refl _ (askR_ok z).2]
  refine iteF ⟨by omega, by omega, ⟨(askW_ok z).1, (askW_ok z).1⟩, ?_⟩
  rw [SeqAt.eqv_refl _ (askW_ok z).2]
  exact iteF hk2
theorem ok_law (T : Txt K mg) : FnOk P w K mg base CX0 7 T.f_law T.fd_law ["_law_script"] (spLaw K) := (ok_law0 T).imp law_imp
end
end My
namespace My
open PySem PySem.Spec PyProof.Rows L2 TL
open Lx hiding ints_of paired_app paired_at Wd
theorem all_mk {l : PySem.W.OpenLaw} {w : World} {K : PySem.W.Frag} {h : Heap} {mg : Str → Option Value} {fa : Addr} (X : K.In h) (G : h.Ns mainGlobals mg) (hfa : mg "law" = some (.ref fa))
    {C_Rule : Addr} (aC_Rule : PySem.W.nsIn K mainGlobals "Rule" = some (some (.ref C_Rule))) (pg_Rule : PySem.W.plainGet K C_Rule Str.empty = true) (hd_Rule : PySem.W.hasDictIn K C_Rule = true) (po_Rule : PySem.W.plainOver K C_Rule = true) (sa_Rule : PySem.W.findIn K (.ref C_Rule) "__setattr__" = some (some (.builtin "object.__setattr__")))
    (mk_Rule : PySem.W.makesIn K C_Rule = true) (kc_Rule : PySem.W.keepIn K (.ref C_Rule) = true)
    (n_Rule_keep : PySem.W.findIn K (.ref C_Rule) "keep" = some none)
    (n_Rule_worn : PySem.W.findIn K (.ref C_Rule) "worn" = some none)
    (n_Rule_alone : PySem.W.findIn K (.ref C_Rule) "alone" = some none)
    (n_Rule_anew : PySem.W.findIn K (.ref C_Rule) "anew" = some none)
    (n_Rule_own : PySem.W.findIn K (.ref C_Rule) "own" = some none)
    (n_Rule_common : PySem.W.findIn K (.ref C_Rule) "common" = some none)
    (n_Rule_never : PySem.W.findIn K (.ref C_Rule) "never" = some none)
    (n_Rule_strict : PySem.W.findIn K (.ref C_Rule) "strict" = some none)
    {C_Wish : Addr} (aC_Wish : PySem.W.nsIn K mainGlobals "Wish" = some (some (.ref C_Wish))) (pg_Wish : PySem.W.plainGet K C_Wish Str.empty = true) (hd_Wish : PySem.W.hasDictIn K C_Wish = true) (po_Wish : PySem.W.plainOver K C_Wish = true) (sa_Wish : PySem.W.findIn K (.ref C_Wish) "__setattr__" = some (some (.builtin "object.__setattr__")))
    (mk_Wish : PySem.W.makesIn K C_Wish = true) (kc_Wish : PySem.W.keepIn K (.ref C_Wish) = true)
    (n_Wish_atmost : PySem.W.findIn K (.ref C_Wish) "atmost" = some none)
    (n_Wish_left : PySem.W.findIn K (.ref C_Wish) "left" = some none)
    (n_Wish_worn : PySem.W.findIn K (.ref C_Wish) "worn" = some none)
    (n_Wish_anew : PySem.W.findIn K (.ref C_Wish) "anew" = some none)
    (n_Wish_kept : PySem.W.findIn K (.ref C_Wish) "kept" = some none)
    (n_Wish_firm : PySem.W.findIn K (.ref C_Wish) "firm" = some none)
    {C_NoRule : Addr} (aC_NoRule : PySem.W.nsIn K mainGlobals "NoRule" = some (some (.ref C_NoRule)))
    {C_NoWish : Addr} (aC_NoWish : PySem.W.nsIn K mainGlobals "NoWish" = some (some (.ref C_NoWish)))
    {C_PageError : Addr} (aC_PageError : PySem.W.nsIn K mainGlobals "PageError" = some (some (.ref C_PageError)))
    {nm_NoRule q_NoRule : Str} {N_NoRule : Addr} {bs_NoRule : List Value} {sn_NoRule : List Str} {sub_NoRule : List Value} {ab_NoRule : Bool} {col_NoRule : Option Bool} {dd_NoRule : Option Addr} {m0_NoRule m1_NoRule m2_NoRule m3_NoRule m5_NoRule : Option Value}
    (xL_NoRule : K.lookup C_NoRule = some (excClassObj nm_NoRule q_NoRule C_NoRule N_NoRule bs_NoRule [.ref C_PageError, .type "ValueError", .type "Exception", .type "BaseException", .type "object"] true sn_NoRule sub_NoRule ab_NoRule col_NoRule dd_NoRule m0_NoRule m1_NoRule m2_NoRule m3_NoRule m5_NoRule "ValueError.__new__"))
    (sa_NoRule : PySem.W.findIn K (.ref C_NoRule) "__setattr__" = some (some (.builtin "object.__setattr__")))
    (ga_NoRule : PySem.W.findIn K (.ref C_NoRule) "__getattribute__" = some (some (.builtin "BaseException.__getattribute__")))
    (gg_NoRule : PySem.W.findIn K (.ref C_NoRule) "__getattr__" = some none)
    (nb_NoRule : PySem.W.findIn K (.ref C_NoRule) "at" = some none)
    (kc_NoRule : PySem.W.keepIn K (.ref C_NoRule) = true)
    (ec_NoRule : PySem.W.subIn K (.ref C_NoRule) (.type "BaseException") = some true)
    (tc_NoRule : PySem.W.typeIn K (.ref C_NoRule) = some (.type "type"))
    (hc_NoRule : PySem.W.hasDictIn K C_NoRule = true)
    (cc_NoRule : PySem.W.findIn K (.ref C_NoRule) "__class__" = some (some (.builtin "object.__class__")))
    (mc_NoRule : PySem.W.mroIn K C_NoRule (.type "object") = some true)
    (sc_NoRule : PySem.W.subIn K (.ref C_NoRule) (.ref C_NoRule) = some true)
    {nm_NoWish q_NoWish : Str} {N_NoWish : Addr} {bs_NoWish : List Value} {sn_NoWish : List Str} {sub_NoWish : List Value} {ab_NoWish : Bool} {col_NoWish : Option Bool} {dd_NoWish : Option Addr} {m0_NoWish m1_NoWish m2_NoWish m3_NoWish m5_NoWish : Option Value}
    (xL_NoWish : K.lookup C_NoWish = some (excClassObj nm_NoWish q_NoWish C_NoWish N_NoWish bs_NoWish [.ref C_PageError, .type "ValueError", .type "Exception", .type "BaseException", .type "object"] true sn_NoWish sub_NoWish ab_NoWish col_NoWish dd_NoWish m0_NoWish m1_NoWish m2_NoWish m3_NoWish m5_NoWish "ValueError.__new__"))
    (sa_NoWish : PySem.W.findIn K (.ref C_NoWish) "__setattr__" = some (some (.builtin "object.__setattr__")))
    (ga_NoWish : PySem.W.findIn K (.ref C_NoWish) "__getattribute__" = some (some (.builtin "BaseException.__getattribute__")))
    (gg_NoWish : PySem.W.findIn K (.ref C_NoWish) "__getattr__" = some none)
    (nb_NoWish : PySem.W.findIn K (.ref C_NoWish) "at" = some none)
    (kc_NoWish : PySem.W.keepIn K (.ref C_NoWish) = true)
    (ec_NoWish : PySem.W.subIn K (.ref C_NoWish) (.type "BaseException") = some true)
    (tc_NoWish : PySem.W.typeIn K (.ref C_NoWish) = some (.type "type"))
    (hc_NoWish : PySem.W.hasDictIn K C_NoWish = true)
    (cc_NoWish : PySem.W.findIn K (.ref C_NoWish) "__class__" = some (some (.builtin "object.__class__")))
    (mc_NoWish : PySem.W.mroIn K C_NoWish (.type "object") = some true)
    (sc_NoWish : PySem.W.subIn K (.ref C_NoWish) (.ref C_NoWish) = some true)
    (hn_cls : PySem.W.specialIn K (.builtin "object.__class__") "__get__" = some (some (.builtin "getset_descriptor.__get__"))) (htk_cls : PySem.W.takesIn K (.builtin "object.__class__") = some true)
    {f0 : Addr} {od0 an0 : Option Addr} {sl0 : Array (Option Value)} {oc0 kV0 dc0 pm0 cd0 ct0 : Value}
    (a0 : PySem.W.nsIn K mainGlobals "is_made_of" = some (some (.ref f0)))
    (l0 : K.lookup f0 = some ⟨oc0, od0, .func (PySem.W.fnOf "is_made_of" "is_made_of" (defArgs s_is_made_of) (defBody s_is_made_of) (defScope s_is_made_of) .none kV0 dc0 pm0 an0 cd0 ct0), sl0⟩) (c0 : PySem.W.codeIn K cd0 "is_made_of" = true) (k0 : PySem.W.keepIn K (.ref f0) = true)
    {f1 : Addr} {od1 an1 : Option Addr} {sl1 : Array (Option Value)} {oc1 kV1 dc1 pm1 cd1 ct1 : Value}
    (a1 : PySem.W.nsIn K mainGlobals "is_name" = some (some (.ref f1)))
    (l1 : K.lookup f1 = some ⟨oc1, od1, .func (PySem.W.fnOf "is_name" "is_name" (defArgs s_is_name) (defBody s_is_name) (defScope s_is_name) .none kV1 dc1 pm1 an1 cd1 ct1), sl1⟩) (c1 : PySem.W.codeIn K cd1 "is_name" = true) (k1 : PySem.W.keepIn K (.ref f1) = true)
    {f2 : Addr} {od2 an2 : Option Addr} {sl2 : Array (Option Value)} {oc2 kV2 dc2 pm2 cd2 ct2 : Value}
    (a2 : PySem.W.nsIn K mainGlobals "is_figures" = some (some (.ref f2)))
    (l2 : K.lookup f2 = some ⟨oc2, od2, .func (PySem.W.fnOf "is_figures" "is_figures" (defArgs s_is_figures) (defBody s_is_figures) (defScope s_is_figures) .none kV2 dc2 pm2 an2 cd2 ct2), sl2⟩) (c2 : PySem.W.codeIn K cd2 "is_figures" = true) (k2 : PySem.W.keepIn K (.ref f2) = true)
    {f3 : Addr} {od3 an3 : Option Addr} {sl3 : Array (Option Value)} {oc3 kV3 dc3 pm3 cd3 ct3 : Value}
    (a3 : PySem.W.nsIn K mainGlobals "read_rule" = some (some (.ref f3)))
    (l3 : K.lookup f3 = some ⟨oc3, od3, .func (PySem.W.fnOf "read_rule" "read_rule" (defArgs s_read_rule) (defBody s_read_rule) (defScope s_read_rule) .none kV3 dc3 pm3 an3 cd3 ct3), sl3⟩) (c3 : PySem.W.codeIn K cd3 "read_rule" = true) (k3 : PySem.W.keepIn K (.ref f3) = true)
    {f4 : Addr} {od4 an4 : Option Addr} {sl4 : Array (Option Value)} {oc4 kV4 dc4 pm4 cd4 ct4 : Value}
    (a4 : PySem.W.nsIn K mainGlobals "read_wish" = some (some (.ref f4)))
    (l4 : K.lookup f4 = some ⟨oc4, od4, .func (PySem.W.fnOf "read_wish" "read_wish" (defArgs s_read_wish) (defBody s_read_wish) (defScope s_read_wish) .none kV4 dc4 pm4 an4 cd4 ct4), sl4⟩) (c4 : PySem.W.codeIn K cd4 "read_wish" = true) (k4 : PySem.W.keepIn K (.ref f4) = true)
    {f5 : Addr} {od5 an5 : Option Addr} {sl5 : Array (Option Value)} {oc5 kV5 dc5 pm5 cd5 ct5 : Value}
    (a5 : PySem.W.nsIn K mainGlobals "words_told" = some (some (.ref f5)))
    (l5 : K.lookup f5 = some ⟨oc5, od5, .func (PySem.W.fnOf "words_told" "words_told" (defArgs s_words_told) (defBody s_words_told) (defScope s_words_told) .none kV5 dc5 pm5 an5 cd5 ct5), sl5⟩) (c5 : PySem.W.codeIn K cd5 "words_told" = true) (k5 : PySem.W.keepIn K (.ref f5) = true)
    {f6 : Addr} {od6 an6 : Option Addr} {sl6 : Array (Option Value)} {oc6 kV6 dc6 pm6 cd6 ct6 : Value}
    (a6 : PySem.W.nsIn K mainGlobals "word_told" = some (some (.ref f6)))
    (l6 : K.lookup f6 = some ⟨oc6, od6, .func (PySem.W.fnOf "word_told" "word_told" (defArgs s_word_told) (defBody s_word_told) (defScope s_word_told) .none kV6 dc6 pm6 an6 cd6 ct6), sl6⟩) (c6 : PySem.W.codeIn K cd6 "word_told" = true) (k6 : PySem.W.keepIn K (.ref f6) = true)
    {f7 : Addr} {od7 an7 : Option Addr} {sl7 : Array (Option Value)} {oc7 kV7 dc7 pm7 cd7 ct7 : Value}
    (a7 : PySem.W.nsIn K mainGlobals "first_wrong" = some (some (.ref f7)))
    (l7 : K.lookup f7 = some ⟨oc7, od7, .func (PySem.W.fnOf "first_wrong" "first_wrong" (defArgs s_first_wrong) (defBody s_first_wrong) (defScope s_first_wrong) .none kV7 dc7 pm7 an7 cd7 ct7), sl7⟩) (c7 : PySem.W.codeIn K cd7 "first_wrong" = true) (k7 : PySem.W.keepIn K (.ref f7) = true)
    {f8 : Addr} {od8 an8 : Option Addr} {sl8 : Array (Option Value)} {oc8 kV8 dc8 pm8 cd8 ct8 : Value}
    (a8 : PySem.W.nsIn K mainGlobals "suits_its_name" = some (some (.ref f8)))
    (l8 : K.lookup f8 = some ⟨oc8, od8, .func (PySem.W.fnOf "suits_its_name" "suits_its_name" (defArgs s_suits_its_name) (defBody s_suits_its_name) (defScope s_suits_its_name) .none kV8 dc8 pm8 an8 cd8 ct8), sl8⟩) (c8 : PySem.W.codeIn K cd8 "suits_its_name" = true) (k8 : PySem.W.keepIn K (.ref f8) = true)
    {f9 : Addr} {od9 an9 : Option Addr} {sl9 : Array (Option Value)} {oc9 kV9 dc9 pm9 cd9 ct9 : Value}
    (a9 : PySem.W.nsIn K mainGlobals "numbers_told" = some (some (.ref f9)))
    (l9 : K.lookup f9 = some ⟨oc9, od9, .func (PySem.W.fnOf "numbers_told" "numbers_told" (defArgs s_numbers_told) (defBody s_numbers_told) (defScope s_numbers_told) .none kV9 dc9 pm9 an9 cd9 ct9), sl9⟩) (c9 : PySem.W.codeIn K cd9 "numbers_told" = true) (k9 : PySem.W.keepIn K (.ref f9) = true)
    {f10 : Addr} {od10 an10 : Option Addr} {sl10 : Array (Option Value)} {oc10 kV10 dc10 pm10 cd10 ct10 : Value}
    (a10 : PySem.W.nsIn K mainGlobals "is_told" = some (some (.ref f10)))
    (l10 : K.lookup f10 = some ⟨oc10, od10, .func (PySem.W.fnOf "is_told" "is_told" (defArgs s_is_told) (defBody s_is_told) (defScope s_is_told) .none kV10 dc10 pm10 an10 cd10 ct10), sl10⟩) (c10 : PySem.W.codeIn K cd10 "is_told" = true) (k10 : PySem.W.keepIn K (.ref f10) = true)
    {f11 : Addr} {od11 an11 : Option Addr} {sl11 : Array (Option Value)} {oc11 kV11 dc11 pm11 cd11 ct11 : Value}
    (a11 : PySem.W.nsIn K mainGlobals "_law_well" = some (some (.ref f11)))
    (l11 : K.lookup f11 = some ⟨oc11, od11, .func (PySem.W.fnOf "_law_well" "_law_well" (defArgs s_law_well) (defBody s_law_well) (defScope s_law_well) .none kV11 dc11 pm11 an11 cd11 ct11), sl11⟩) (c11 : PySem.W.codeIn K cd11 "_law_well" = true) (k11 : PySem.W.keepIn K (.ref f11) = true)
    {f12 : Addr} {od12 an12 : Option Addr} {sl12 : Array (Option Value)} {oc12 kV12 dc12 pm12 cd12 ct12 : Value}
    (a12 : PySem.W.nsIn K mainGlobals "_law_draw" = some (some (.ref f12)))
    (l12 : K.lookup f12 = some ⟨oc12, od12, .func (PySem.W.fnOf "_law_draw" "_law_draw" (defArgs s_law_draw) (defBody s_law_draw) (defScope s_law_draw) .none kV12 dc12 pm12 an12 cd12 ct12), sl12⟩) (c12 : PySem.W.codeIn K cd12 "_law_draw" = true) (k12 : PySem.W.keepIn K (.ref f12) = true)
    {f13 : Addr} {od13 an13 : Option Addr} {sl13 : Array (Option Value)} {oc13 kV13 dc13 pm13 cd13 ct13 : Value}
    (a13 : PySem.W.nsIn K mainGlobals "_law_piece" = some (some (.ref f13)))
    (l13 : K.lookup f13 = some ⟨oc13, od13, .func (PySem.W.fnOf "_law_piece" "_law_piece" (defArgs s_law_piece) (defBody s_law_piece) (defScope s_law_piece) .none kV13 dc13 pm13 an13 cd13 ct13), sl13⟩) (c13 : PySem.W.codeIn K cd13 "_law_piece" = true) (k13 : PySem.W.keepIn K (.ref f13) = true)
    {f14 : Addr} {od14 an14 : Option Addr} {sl14 : Array (Option Value)} {oc14 kV14 dc14 pm14 cd14 ct14 : Value}
    (a14 : PySem.W.nsIn K mainGlobals "_law_near" = some (some (.ref f14)))
    (l14 : K.lookup f14 = some ⟨oc14, od14, .func (PySem.W.fnOf "_law_near" "_law_near" (defArgs s_law_near) (defBody s_law_near) (defScope s_law_near) .none kV14 dc14 pm14 an14 cd14 ct14), sl14⟩) (c14 : PySem.W.codeIn K cd14 "_law_near" = true) (k14 : PySem.W.keepIn K (.ref f14) = true)
    {f15 : Addr} {od15 an15 : Option Addr} {sl15 : Array (Option Value)} {oc15 kV15 dc15 pm15 cd15 ct15 : Value}
    (a15 : PySem.W.nsIn K mainGlobals "_law_only" = some (some (.ref f15)))
    (l15 : K.lookup f15 = some ⟨oc15, od15, .func (PySem.W.fnOf "_law_only" "_law_only" (defArgs s_law_only) (defBody s_law_only) (defScope s_law_only) .none kV15 dc15 pm15 an15 cd15 ct15), sl15⟩) (c15 : PySem.W.codeIn K cd15 "_law_only" = true) (k15 : PySem.W.keepIn K (.ref f15) = true)
    {f16 : Addr} {od16 an16 : Option Addr} {sl16 : Array (Option Value)} {oc16 kV16 dc16 pm16 cd16 ct16 : Value}
    (a16 : PySem.W.nsIn K mainGlobals "_law_word" = some (some (.ref f16)))
    (l16 : K.lookup f16 = some ⟨oc16, od16, .func (PySem.W.fnOf "_law_word" "_law_word" (defArgs s_law_word) (defBody s_law_word) (defScope s_law_word) .none kV16 dc16 pm16 an16 cd16 ct16), sl16⟩) (c16 : PySem.W.codeIn K cd16 "_law_word" = true) (k16 : PySem.W.keepIn K (.ref f16) = true)
    {f17 : Addr} {od17 an17 : Option Addr} {sl17 : Array (Option Value)} {oc17 kV17 dc17 pm17 cd17 ct17 : Value}
    (a17 : PySem.W.nsIn K mainGlobals "_law_words" = some (some (.ref f17)))
    (l17 : K.lookup f17 = some ⟨oc17, od17, .func (PySem.W.fnOf "_law_words" "_law_words" (defArgs s_law_words) (defBody s_law_words) (defScope s_law_words) .none kV17 dc17 pm17 an17 cd17 ct17), sl17⟩) (c17 : PySem.W.codeIn K cd17 "_law_words" = true) (k17 : PySem.W.keepIn K (.ref f17) = true)
    {f18 : Addr} {od18 an18 : Option Addr} {sl18 : Array (Option Value)} {oc18 kV18 dc18 pm18 cd18 ct18 : Value}
    (a18 : PySem.W.nsIn K mainGlobals "_law_least" = some (some (.ref f18)))
    (l18 : K.lookup f18 = some ⟨oc18, od18, .func (PySem.W.fnOf "_law_least" "_law_least" (defArgs s_law_least) (defBody s_law_least) (defScope s_law_least) .none kV18 dc18 pm18 an18 cd18 ct18), sl18⟩) (c18 : PySem.W.codeIn K cd18 "_law_least" = true) (k18 : PySem.W.keepIn K (.ref f18) = true)
    {f19 : Addr} {od19 an19 : Option Addr} {sl19 : Array (Option Value)} {oc19 kV19 dc19 pm19 cd19 ct19 : Value}
    (a19 : PySem.W.nsIn K mainGlobals "_law_rule" = some (some (.ref f19)))
    (l19 : K.lookup f19 = some ⟨oc19, od19, .func (PySem.W.fnOf "_law_rule" "_law_rule" (defArgs s_law_rule) (defBody s_law_rule) (defScope s_law_rule) .none kV19 dc19 pm19 an19 cd19 ct19), sl19⟩) (c19 : PySem.W.codeIn K cd19 "_law_rule" = true) (k19 : PySem.W.keepIn K (.ref f19) = true)
    {f20 : Addr} {od20 an20 : Option Addr} {sl20 : Array (Option Value)} {oc20 kV20 dc20 pm20 cd20 ct20 : Value}
    (a20 : PySem.W.nsIn K mainGlobals "_law_wish" = some (some (.ref f20)))
    (l20 : K.lookup f20 = some ⟨oc20, od20, .func (PySem.W.fnOf "_law_wish" "_law_wish" (defArgs s_law_wish) (defBody s_law_wish) (defScope s_law_wish) .none kV20 dc20 pm20 an20 cd20 ct20), sl20⟩) (c20 : PySem.W.codeIn K cd20 "_law_wish" = true) (k20 : PySem.W.keepIn K (.ref f20) = true)
    {f21 : Addr} {od21 an21 : Option Addr} {sl21 : Array (Option Value)} {oc21 kV21 dc21 pm21 cd21 ct21 : Value}
    (a21 : PySem.W.nsIn K mainGlobals "_law_told_rule" = some (some (.ref f21)))
    (l21 : K.lookup f21 = some ⟨oc21, od21, .func (PySem.W.fnOf "_law_told_rule" "_law_told_rule" (defArgs s_law_told_rule) (defBody s_law_told_rule) (defScope s_law_told_rule) .none kV21 dc21 pm21 an21 cd21 ct21), sl21⟩) (c21 : PySem.W.codeIn K cd21 "_law_told_rule" = true) (k21 : PySem.W.keepIn K (.ref f21) = true)
    {f22 : Addr} {od22 an22 : Option Addr} {sl22 : Array (Option Value)} {oc22 kV22 dc22 pm22 cd22 ct22 : Value}
    (a22 : PySem.W.nsIn K mainGlobals "_law_told_wish" = some (some (.ref f22)))
    (l22 : K.lookup f22 = some ⟨oc22, od22, .func (PySem.W.fnOf "_law_told_wish" "_law_told_wish" (defArgs s_law_told_wish) (defBody s_law_told_wish) (defScope s_law_told_wish) .none kV22 dc22 pm22 an22 cd22 ct22), sl22⟩) (c22 : PySem.W.codeIn K cd22 "_law_told_wish" = true) (k22 : PySem.W.keepIn K (.ref f22) = true)
    {f23 : Addr} {od23 an23 : Option Addr} {sl23 : Array (Option Value)} {oc23 kV23 dc23 pm23 cd23 ct23 : Value}
    (a23 : PySem.W.nsIn K mainGlobals "law" = some (some (.ref f23)))
    (l23 : K.lookup f23 = some ⟨oc23, od23, .func (PySem.W.fnOf "law" "law" (defArgs s_law) (defBody s_law) (defScope s_law) .none kV23 dc23 pm23 an23 cd23 ct23), sl23⟩) (c23 : PySem.W.codeIn K cd23 "law" = true) (k23 : PySem.W.keepIn K (.ref f23) = true)
    {f24 : Addr} {od24 an24 : Option Addr} {sl24 : Array (Option Value)} {oc24 kV24 dc24 pm24 cd24 ct24 : Value}
    (a24_NoRule : PySem.W.findIn K (.ref C_NoRule) "__init__" = some (some (.ref f24)))
    (i24 : PySem.W.isFn K (.ref f24) = true)
    (ty24 : PySem.W.typeIn K (.ref f24) = some (.type "function"))
    (l24 : K.lookup f24 = some ⟨oc24, od24, .func (PySem.W.fnOf "__init__" "NoRule.__init__" (defArgs s_NoRule_init) (defBody s_NoRule_init) (defScope s_NoRule_init) .none kV24 dc24 pm24 an24 cd24 ct24), sl24⟩) (c24 : PySem.W.codeIn K cd24 "NoRule.__init__" = true) (k24 : PySem.W.keepIn K (.ref f24) = true)
    {f25 : Addr} {od25 an25 : Option Addr} {sl25 : Array (Option Value)} {oc25 kV25 dc25 pm25 cd25 ct25 : Value}
    (a25_NoWish : PySem.W.findIn K (.ref C_NoWish) "__init__" = some (some (.ref f25)))
    (i25 : PySem.W.isFn K (.ref f25) = true)
    (ty25 : PySem.W.typeIn K (.ref f25) = some (.type "function"))
    (l25 : K.lookup f25 = some ⟨oc25, od25, .func (PySem.W.fnOf "__init__" "NoWish.__init__" (defArgs s_NoWish_init) (defBody s_NoWish_init) (defScope s_NoWish_init) .none kV25 dc25 pm25 an25 cd25 ct25), sl25⟩) (c25 : PySem.W.codeIn K cd25 "NoWish.__init__" = true) (k25 : PySem.W.keepIn K (.ref f25) = true)
    {f26 : Addr} {od26 an26 : Option Addr} {sl26 : Array (Option Value)} {oc26 dc26 pm26 cd26 ct26 : Value} {D26 : Addr}
    (a26_Rule : PySem.W.findIn K (.ref C_Rule) "__init__" = some (some (.ref f26)))
    (i26 : PySem.W.isFn K (.ref f26) = true)
    (l26 : K.lookup f26 = some ⟨oc26, od26, .func (PySem.W.fnOf "__init__" "Rule.__init__" (defArgs s_Rule_init) (defBody s_Rule_init) (defScope s_Rule_init) .none (.ref D26) dc26 pm26 an26 cd26 ct26), sl26⟩) (c26 : PySem.W.codeIn K cd26 "Rule.__init__" = true) (k26 : PySem.W.keepIn K (.ref f26) = true)
    {tk_Rule_init_keep : Tok}
    (y_Rule_init_keep : PySem.W.nsIn K D26 "keep" = some (some (.int 0 tk_Rule_init_keep)))
    {tk_Rule_init_worn : Tok}
    (y_Rule_init_worn : PySem.W.nsIn K D26 "worn" = some (some (.int 0 tk_Rule_init_worn)))
    {tk_Rule_init_alone : Tok}
    (y_Rule_init_alone : PySem.W.nsIn K D26 "alone" = some (some (.int 0 tk_Rule_init_alone)))
    (y_Rule_init_anew : PySem.W.nsIn K D26 "anew" = some (some (.bool false)))
    (y_Rule_init_own : PySem.W.nsIn K D26 "own" = some (some (.bool false)))
    (y_Rule_init_common : PySem.W.nsIn K D26 "common" = some (some (.bool false)))
    (y_Rule_init_never : PySem.W.nsIn K D26 "never" = some (some (.bool false)))
    (y_Rule_init_strict : PySem.W.nsIn K D26 "strict" = some (some (.bool false)))
    {f27 : Addr} {od27 an27 : Option Addr} {sl27 : Array (Option Value)} {oc27 dc27 pm27 cd27 ct27 : Value} {D27 : Addr}
    (a27_Wish : PySem.W.findIn K (.ref C_Wish) "__init__" = some (some (.ref f27)))
    (i27 : PySem.W.isFn K (.ref f27) = true)
    (l27 : K.lookup f27 = some ⟨oc27, od27, .func (PySem.W.fnOf "__init__" "Wish.__init__" (defArgs s_Wish_init) (defBody s_Wish_init) (defScope s_Wish_init) .none (.ref D27) dc27 pm27 an27 cd27 ct27), sl27⟩) (c27 : PySem.W.codeIn K cd27 "Wish.__init__" = true) (k27 : PySem.W.keepIn K (.ref f27) = true)
    (y_Wish_init_atmost : PySem.W.nsIn K D27 "atmost" = some (some (.none)))
    {tk_Wish_init_left : Tok}
    (y_Wish_init_left : PySem.W.nsIn K D27 "left" = some (some (.int 0 tk_Wish_init_left)))
    {tk_Wish_init_worn : Tok}
    (y_Wish_init_worn : PySem.W.nsIn K D27 "worn" = some (some (.int 0 tk_Wish_init_worn)))
    (y_Wish_init_anew : PySem.W.nsIn K D27 "anew" = some (some (.bool false)))
    (y_Wish_init_kept : PySem.W.nsIn K D27 "kept" = some (some (.bool false)))
    (y_Wish_init_firm : PySem.W.nsIn K D27 "firm" = some (some (.bool false)))
    {t_LETTERS : Tok} (x_LETTERS : PySem.W.nsIn K mainGlobals "LETTERS" = some (some (.str "abcdefghijklmnopqrstuvwxyz" t_LETTERS)))
    {t_FIGURES : Tok} (x_FIGURES : PySem.W.nsIn K mainGlobals "FIGURES" = some (some (.str "0123456789" t_FIGURES)))
    {t_LONGEST_NAME : Tok} (x_LONGEST_NAME : PySem.W.nsIn K mainGlobals "LONGEST_NAME" = some (some (.int 8 t_LONGEST_NAME)))
    {t_MOST_FIGURES : Tok} (x_MOST_FIGURES : PySem.W.nsIn K mainGlobals "MOST_FIGURES" = some (some (.int 60 t_MOST_FIGURES)))
    {a_RULE_NUMBERS : Addr} {tt_RULE_NUMBERS_0 tt_RULE_NUMBERS_1 tt_RULE_NUMBERS_2 : Tok} {od_RULE_NUMBERS : Option Addr} {nn_RULE_NUMBERS : Nat} {sl_RULE_NUMBERS : Array (Option Value)} (x_RULE_NUMBERS : PySem.W.nsIn K mainGlobals "RULE_NUMBERS" = some (some (.ref a_RULE_NUMBERS))) (y_RULE_NUMBERS : K.lookup a_RULE_NUMBERS = some ⟨.type "tuple", od_RULE_NUMBERS, .seq #[.str "keep" tt_RULE_NUMBERS_0, .str "worn" tt_RULE_NUMBERS_1, .str "alone" tt_RULE_NUMBERS_2] nn_RULE_NUMBERS, sl_RULE_NUMBERS⟩)
    {a_RULE_TRUTHS : Addr} {tt_RULE_TRUTHS_0 tt_RULE_TRUTHS_1 tt_RULE_TRUTHS_2 tt_RULE_TRUTHS_3 tt_RULE_TRUTHS_4 : Tok} {od_RULE_TRUTHS : Option Addr} {nn_RULE_TRUTHS : Nat} {sl_RULE_TRUTHS : Array (Option Value)} (x_RULE_TRUTHS : PySem.W.nsIn K mainGlobals "RULE_TRUTHS" = some (some (.ref a_RULE_TRUTHS))) (y_RULE_TRUTHS : K.lookup a_RULE_TRUTHS = some ⟨.type "tuple", od_RULE_TRUTHS, .seq #[.str "anew" tt_RULE_TRUTHS_0, .str "own" tt_RULE_TRUTHS_1, .str "common" tt_RULE_TRUTHS_2, .str "never" tt_RULE_TRUTHS_3, .str "strict" tt_RULE_TRUTHS_4] nn_RULE_TRUTHS, sl_RULE_TRUTHS⟩)
    {a_WISH_NUMBERS : Addr} {tt_WISH_NUMBERS_0 tt_WISH_NUMBERS_1 tt_WISH_NUMBERS_2 : Tok} {od_WISH_NUMBERS : Option Addr} {nn_WISH_NUMBERS : Nat} {sl_WISH_NUMBERS : Array (Option Value)} (x_WISH_NUMBERS : PySem.W.nsIn K mainGlobals "WISH_NUMBERS" = some (some (.ref a_WISH_NUMBERS))) (y_WISH_NUMBERS : K.lookup a_WISH_NUMBERS = some ⟨.type "tuple", od_WISH_NUMBERS, .seq #[.str "atmost" tt_WISH_NUMBERS_0, .str "left" tt_WISH_NUMBERS_1, .str "worn" tt_WISH_NUMBERS_2] nn_WISH_NUMBERS, sl_WISH_NUMBERS⟩)
    {a_WISH_TRUTHS : Addr} {tt_WISH_TRUTHS_0 tt_WISH_TRUTHS_1 tt_WISH_TRUTHS_2 : Tok} {od_WISH_TRUTHS : Option Addr} {nn_WISH_TRUTHS : Nat} {sl_WISH_TRUTHS : Array (Option Value)} (x_WISH_TRUTHS : PySem.W.nsIn K mainGlobals "WISH_TRUTHS" = some (some (.ref a_WISH_TRUTHS))) (y_WISH_TRUTHS : K.lookup a_WISH_TRUTHS = some ⟨.type "tuple", od_WISH_TRUTHS, .seq #[.str "anew" tt_WISH_TRUTHS_0, .str "kept" tt_WISH_TRUTHS_1, .str "firm" tt_WISH_TRUTHS_2] nn_WISH_TRUTHS, sl_WISH_TRUTHS⟩)
    (z_all : PySem.W.nsIn K mainGlobals "all" = some none)
    (z_enumerate : PySem.W.nsIn K mainGlobals "enumerate" = some none)
    (z_int : PySem.W.nsIn K mainGlobals "int" = some none)
    (z_isinstance : PySem.W.nsIn K mainGlobals "isinstance" = some none)
    (z_len : PySem.W.nsIn K mainGlobals "len" = some none)
    (z_max : PySem.W.nsIn K mainGlobals "max" = some none)
    (z_min : PySem.W.nsIn K mainGlobals "min" = some none)
    (z_range : PySem.W.nsIn K mainGlobals "range" = some none)
    (z_str : PySem.W.nsIn K mainGlobals "str" = some none)
    : ∃ fd : FuncData, (∀ (s : Shared) (v : Value), BindsTo s fd ⟨[v], []⟩ [("_law_script", v)]) ∧ ∀ base : Heap, K.In base → base.Ns mainGlobals mg → FnOk l.prog w K mg base CX0 7 fa fd ["_law_script"] (spLaw K) := by
  have e := hfa.symm.trans (PySem.W.mg_of X G a23)
  cases e
  have F0 := fun_mk (st := s_is_made_of) l0 c0 k0
  have F1 := fun_mk (st := s_is_name) l1 c1 k1
  have F2 := fun_mk (st := s_is_figures) l2 c2 k2
  have F3 := fun_mk (st := s_read_rule) l3 c3 k3
  have F4 := fun_mk (st := s_read_wish) l4 c4 k4
  have F5 := fun_mk (st := s_words_told) l5 c5 k5
  have F6 := fun_mk (st := s_word_told) l6 c6 k6
  have F7 := fun_mk (st := s_first_wrong) l7 c7 k7
  have F8 := fun_mk (st := s_suits_its_name) l8 c8 k8
  have F9 := fun_mk (st := s_numbers_told) l9 c9 k9
  have F10 := fun_mk (st := s_is_told) l10 c10 k10
  have F11 := fun_mk (st := s_law_well) l11 c11 k11
  have F12 := fun_mk (st := s_law_draw) l12 c12 k12
  have F13 := fun_mk (st := s_law_piece) l13 c13 k13
  have F14 := fun_mk (st := s_law_near) l14 c14 k14
  have F15 := fun_mk (st := s_law_only) l15 c15 k15
  have F16 := fun_mk (st := s_law_word) l16 c16 k16
  have F17 := fun_mk (st := s_law_words) l17 c17 k17
  have F18 := fun_mk (st := s_law_least) l18 c18 k18
  have F19 := fun_mk (st := s_law_rule) l19 c19 k19
  have F20 := fun_mk (st := s_law_wish) l20 c20 k20
  have F21 := fun_mk (st := s_law_told_rule) l21 c21 k21
  have F22 := fun_mk (st := s_law_told_wish) l22 c22 k22
  have F23 := fun_mk (st := s_law) l23 c23 k23
  have F24 := fun_mk (st := s_NoRule_init) l24 c24 k24
  have F25 := fun_mk (st := s_NoWish_init) l25 c25 k25
  have F26 := fun_mk (st := s_Rule_init) l26 c26 k26
  have FK26 : FunD K "__init__" "Rule.__init__" (defArgs s_Rule_init) (defBody s_Rule_init) (defScope s_Rule_init) [] ([("keep", .int 0), ("worn", .int 0), ("alone", .int 0), ("anew", .bl false), ("own", .bl false), ("common", .bl false), ("never", .bl false), ("strict", .bl false)] : List (Str × V)) f26 _ := ⟨⟨_, _, _, _, _, _, _, _, _, _, rfl, l26, c26, .inl ⟨rfl, rfl⟩, .inr ⟨_, rfl, (List.forall_mem_cons.mpr ⟨⟨_, y_Rule_init_keep, ⟨_, rfl⟩⟩, (List.forall_mem_cons.mpr ⟨⟨_, y_Rule_init_worn, ⟨_, rfl⟩⟩, (List.forall_mem_cons.mpr ⟨⟨_, y_Rule_init_alone, ⟨_, rfl⟩⟩, (List.forall_mem_cons.mpr ⟨⟨_, y_Rule_init_anew, rfl⟩, (List.forall_mem_cons.mpr ⟨⟨_, y_Rule_init_own, rfl⟩, (List.forall_mem_cons.mpr ⟨⟨_, y_Rule_init_common, rfl⟩, (List.forall_mem_cons.mpr ⟨⟨_, y_Rule_init_never, rfl⟩, (List.forall_mem_cons.mpr ⟨⟨_, y_Rule_init_strict, rfl⟩, (fun _ h => nomatch h)⟩)⟩)⟩)⟩)⟩)⟩)⟩)⟩)⟩⟩, k26⟩
  have F27 := fun_mk (st := s_Wish_init) l27 c27 k27
  have FK27 : FunD K "__init__" "Wish.__init__" (defArgs s_Wish_init) (defBody s_Wish_init) (defScope s_Wish_init) [] ([("atmost", .non), ("left", .int 0), ("worn", .int 0), ("anew", .bl false), ("kept", .bl false), ("firm", .bl false)] : List (Str × V)) f27 _ := ⟨⟨_, _, _, _, _, _, _, _, _, _, rfl, l27, c27, .inl ⟨rfl, rfl⟩, .inr ⟨_, rfl, (List.forall_mem_cons.mpr ⟨⟨_, y_Wish_init_atmost, rfl⟩, (List.forall_mem_cons.mpr ⟨⟨_, y_Wish_init_left, ⟨_, rfl⟩⟩, (List.forall_mem_cons.mpr ⟨⟨_, y_Wish_init_worn, ⟨_, rfl⟩⟩, (List.forall_mem_cons.mpr ⟨⟨_, y_Wish_init_anew, rfl⟩, (List.forall_mem_cons.mpr ⟨⟨_, y_Wish_init_kept, rfl⟩, (List.forall_mem_cons.mpr ⟨⟨_, y_Wish_init_firm, rfl⟩, (fun _ h => nomatch h)⟩)⟩)⟩)⟩)⟩)⟩)⟩⟩, k27⟩
  let T : Txt K mg := {
    f_is_made_of := f0, fd_is_made_of := _, d_is_made_of := ⟨F0, F0.binds (ps := ["text", "signs", "least", "most"]) (fun _ _ _ _ _ _ us hl => match us, hl with | [_, _, _, _], _ => rfl), PySem.W.mg_of X G a0⟩,
    f_is_name := f1, fd_is_name := _, d_is_name := ⟨F1, F1.binds (ps := ["text"]) (fun _ _ _ _ _ _ us hl => match us, hl with | [_], _ => rfl), PySem.W.mg_of X G a1⟩,
    f_is_figures := f2, fd_is_figures := _, d_is_figures := ⟨F2, F2.binds (ps := ["text"]) (fun _ _ _ _ _ _ us hl => match us, hl with | [_], _ => rfl), PySem.W.mg_of X G a2⟩,
    f_read_rule := f3, fd_read_rule := _, d_read_rule := ⟨F3, F3.binds (ps := ["text"]) (fun _ _ _ _ _ _ us hl => match us, hl with | [_], _ => rfl), PySem.W.mg_of X G a3⟩,
    f_read_wish := f4, fd_read_wish := _, d_read_wish := ⟨F4, F4.binds (ps := ["text"]) (fun _ _ _ _ _ _ us hl => match us, hl with | [_], _ => rfl), PySem.W.mg_of X G a4⟩,
    f_words_told := f5, fd_words_told := _, d_words_told := ⟨F5, F5.binds (ps := ["text"]) (fun _ _ _ _ _ _ us hl => match us, hl with | [_], _ => rfl), PySem.W.mg_of X G a5⟩,
    f_word_told := f6, fd_word_told := _, d_word_told := ⟨F6, F6.binds (ps := ["piece"]) (fun _ _ _ _ _ _ us hl => match us, hl with | [_], _ => rfl), PySem.W.mg_of X G a6⟩,
    f_first_wrong := f7, fd_first_wrong := _, d_first_wrong := ⟨F7, F7.binds (ps := ["words", "numbers", "truths"]) (fun _ _ _ _ _ _ us hl => match us, hl with | [_, _, _], _ => rfl), PySem.W.mg_of X G a7⟩,
    f_suits_its_name := f8, fd_suits_its_name := _, d_suits_its_name := ⟨F8, F8.binds (ps := ["word", "numbers", "truths"]) (fun _ _ _ _ _ _ us hl => match us, hl with | [_, _, _], _ => rfl), PySem.W.mg_of X G a8⟩,
    f_numbers_told := f9, fd_numbers_told := _, d_numbers_told := ⟨F9, F9.binds (ps := ["words", "name"]) (fun _ _ _ _ _ _ us hl => match us, hl with | [_, _], _ => rfl), PySem.W.mg_of X G a9⟩,
    f_is_told := f10, fd_is_told := _, d_is_told := ⟨F10, F10.binds (ps := ["words", "name"]) (fun _ _ _ _ _ _ us hl => match us, hl with | [_, _], _ => rfl), PySem.W.mg_of X G a10⟩,
    f_law_well := f11, fd_law_well := _, d_law_well := ⟨F11, F11.binds (ps := ["_law_cell"]) (fun _ _ _ _ _ _ us hl => match us, hl with | [_], _ => rfl), PySem.W.mg_of X G a11⟩,
    f_law_draw := f12, fd_law_draw := _, d_law_draw := ⟨F12, F12.binds (ps := ["_law_well_here", "_law_many"]) (fun _ _ _ _ _ _ us hl => match us, hl with | [_, _], _ => rfl), PySem.W.mg_of X G a12⟩,
    f_law_piece := f13, fd_law_piece := _, d_law_piece := ⟨F13, F13.binds (ps := ["_law_well_here"]) (fun _ _ _ _ _ _ us hl => match us, hl with | [_], _ => rfl), PySem.W.mg_of X G a13⟩,
    f_law_near := f14, fd_law_near := _, d_law_near := ⟨F14, F14.binds (ps := ["_law_well_here", "_law_text"]) (fun _ _ _ _ _ _ us hl => match us, hl with | [_, _], _ => rfl), PySem.W.mg_of X G a14⟩,
    f_law_only := f15, fd_law_only := _, d_law_only := ⟨F15, F15.binds (ps := ["_law_text", "_law_signs"]) (fun _ _ _ _ _ _ us hl => match us, hl with | [_, _], _ => rfl), PySem.W.mg_of X G a15⟩,
    f_law_word := f16, fd_law_word := _, d_law_word := ⟨F16, F16.binds (ps := ["_law_piece_here", "_law_numbers", "_law_truths"]) (fun _ _ _ _ _ _ us hl => match us, hl with | [_, _, _], _ => rfl), PySem.W.mg_of X G a16⟩,
    f_law_words := f17, fd_law_words := _, d_law_words := ⟨F17, F17.binds (ps := ["_law_text", "_law_numbers", "_law_truths"]) (fun _ _ _ _ _ _ us hl => match us, hl with | [_, _, _], _ => rfl), PySem.W.mg_of X G a17⟩,
    f_law_least := f18, fd_law_least := _, d_law_least := ⟨F18, F18.binds (ps := ["_law_words_here", "_law_name", "_law_plain"]) (fun _ _ _ _ _ _ us hl => match us, hl with | [_, _, _], _ => rfl), PySem.W.mg_of X G a18⟩,
    f_law_rule := f19, fd_law_rule := _, d_law_rule := ⟨F19, F19.binds (ps := ["_law_text"]) (fun _ _ _ _ _ _ us hl => match us, hl with | [_], _ => rfl), PySem.W.mg_of X G a19⟩,
    f_law_wish := f20, fd_law_wish := _, d_law_wish := ⟨F20, F20.binds (ps := ["_law_text"]) (fun _ _ _ _ _ _ us hl => match us, hl with | [_], _ => rfl), PySem.W.mg_of X G a20⟩,
    f_law_told_rule := f21, fd_law_told_rule := _, d_law_told_rule := ⟨F21, F21.binds (ps := ["_law_text"]) (fun _ _ _ _ _ _ us hl => match us, hl with | [_], _ => rfl), PySem.W.mg_of X G a21⟩,
    f_law_told_wish := f22, fd_law_told_wish := _, d_law_told_wish := ⟨F22, F22.binds (ps := ["_law_text"]) (fun _ _ _ _ _ _ us hl => match us, hl with | [_], _ => rfl), PySem.W.mg_of X G a22⟩,
    f_law := fa, fd_law := _, d_law := ⟨F23, F23.binds (ps := ["_law_script"]) (fun _ _ _ _ _ _ us hl => match us, hl with | [_], _ => rfl), PySem.W.mg_of X G a23⟩,
    f_NoRule_init := f24, fd_NoRule_init := _, d_NoRule_init := ⟨F24, F24.binds (ps := ["self", "at"]) (fun _ _ _ _ _ _ us hl => match us, hl with | [_, _], _ => rfl)⟩,
    f_NoWish_init := f25, fd_NoWish_init := _, d_NoWish_init := ⟨F25, F25.binds (ps := ["self", "at"]) (fun _ _ _ _ _ _ us hl => match us, hl with | [_, _], _ => rfl)⟩,
    f_Rule_init := f26, fd_Rule_init := _, d_Rule_init := ⟨F26⟩,
    f_Wish_init := f27, fd_Wish_init := _, d_Wish_init := ⟨F27⟩,
    C_NoRule := C_NoRule, g_NoRule := PySem.W.mg_of X G aC_NoRule,
    C_NoWish := C_NoWish, g_NoWish := PySem.W.mg_of X G aC_NoWish,
    C_PageError := C_PageError, g_PageError := PySem.W.mg_of X G aC_PageError,
    ox_NoRule := ⟨⟨_, _, _, _, _, _, _, _, _, _, _, _, _, _, _, xL_NoRule, by first | rfl | decide +kernel⟩, sa_NoRule, ec_NoRule, tc_NoRule, kc_NoRule⟩, na_NoRule := nb_NoRule, ii_NoRule := a24_NoRule, ti_NoRule := ty24, ec_NoRule := ⟨ga_NoRule, gg_NoRule, ec_NoRule, hc_NoRule, cc_NoRule, hn_cls, htk_cls, mc_NoRule⟩, xf_NoRule := ⟨ga_NoRule, gg_NoRule, ec_NoRule, hc_NoRule⟩, em_NoRule := PySem.W.exm_ref ec_NoRule hc_NoRule tc_NoRule sc_NoRule,
    ox_NoWish := ⟨⟨_, _, _, _, _, _, _, _, _, _, _, _, _, _, _, xL_NoWish, by first | rfl | decide +kernel⟩, sa_NoWish, ec_NoWish, tc_NoWish, kc_NoWish⟩, na_NoWish := nb_NoWish, ii_NoWish := a25_NoWish, ti_NoWish := ty25, ec_NoWish := ⟨ga_NoWish, gg_NoWish, ec_NoWish, hc_NoWish, cc_NoWish, hn_cls, htk_cls, mc_NoWish⟩, xf_NoWish := ⟨ga_NoWish, gg_NoWish, ec_NoWish, hc_NoWish⟩, em_NoWish := PySem.W.exm_ref ec_NoWish hc_NoWish tc_NoWish sc_NoWish,
    C_Rule := C_Rule, g_Rule := PySem.W.mg_of X G aC_Rule, cl_Rule := ⟨pg_Rule, hd_Rule, po_Rule, sa_Rule⟩,
    mk_Rule := ⟨mk_Rule, a26_Rule, i26, kc_Rule⟩,
    n_Rule_keep := n_Rule_keep,
    n_Rule_worn := n_Rule_worn,
    n_Rule_alone := n_Rule_alone,
    n_Rule_anew := n_Rule_anew,
    n_Rule_own := n_Rule_own,
    n_Rule_common := n_Rule_common,
    n_Rule_never := n_Rule_never,
    n_Rule_strict := n_Rule_strict,
    C_Wish := C_Wish, g_Wish := PySem.W.mg_of X G aC_Wish, cl_Wish := ⟨pg_Wish, hd_Wish, po_Wish, sa_Wish⟩,
    mk_Wish := ⟨mk_Wish, a27_Wish, i27, kc_Wish⟩,
    n_Wish_atmost := n_Wish_atmost,
    n_Wish_left := n_Wish_left,
    n_Wish_worn := n_Wish_worn,
    n_Wish_anew := n_Wish_anew,
    n_Wish_kept := n_Wish_kept,
    n_Wish_firm := n_Wish_firm,
    kb_0 := (FK26.kbinds0 (ps := ["self", "keep", "worn", "alone", "anew", "own", "common", "never", "strict"]) 1 ["keep", "worn", "alone", "anew", "own", "common", "never", "strict"] [] (fun us mv ws => us ++ pickKw [.inr 0, .inr 1, .inr 2, .inr 3, .inr 4, .inr 5, .inr 6, .inr 7] mv ws) (by simp) (by simp) (fun r1 r2 r3 => pick_rel [.inr 0, .inr 1, .inr 2, .inr 3, .inr 4, .inr 5, .inr 6, .inr 7] r1 r2 r3) (fun D doc pm an cdv ct us mv ws h1 h2 h3 => match us, mv, ws, h1, h2, h3 with | [_], [], [_, _, _, _, _, _, _, _], _, _, _ => rfl)).elim (fun mv h => ⟨_, h⟩),
    kb_1 := (FK27.kbinds0 (ps := ["self", "atmost", "left", "worn", "anew", "kept", "firm"]) 1 ["atmost", "left", "worn", "anew", "kept", "firm"] [] (fun us mv ws => us ++ pickKw [.inr 0, .inr 1, .inr 2, .inr 3, .inr 4, .inr 5] mv ws) (by simp) (by simp) (fun r1 r2 r3 => pick_rel [.inr 0, .inr 1, .inr 2, .inr 3, .inr 4, .inr 5] r1 r2 r3) (fun D doc pm an cdv ct us mv ws h1 h2 h3 => match us, mv, ws, h1, h2, h3 with | [_], [], [_, _, _, _, _, _], _, _, _ => rfl)).elim (fun mv h => ⟨_, h⟩),
    t_LETTERS := _, g_LETTERS := PySem.W.mg_of X G x_LETTERS,
    t_FIGURES := _, g_FIGURES := PySem.W.mg_of X G x_FIGURES,
    t_LONGEST_NAME := _, g_LONGEST_NAME := PySem.W.mg_of X G x_LONGEST_NAME,
    t_MOST_FIGURES := _, g_MOST_FIGURES := PySem.W.mg_of X G x_MOST_FIGURES,
    a_RULE_NUMBERS := a_RULE_NUMBERS, g_RULE_NUMBERS := PySem.W.mg_of X G x_RULE_NUMBERS, q_RULE_NUMBERS := fun H => .inr ⟨_, _, _, y_RULE_NUMBERS, rfl, rfl, (by show 3 ≤ sizeLine; decide), (.cons ⟨_, rfl⟩ (.cons ⟨_, rfl⟩ (.cons ⟨_, rfl⟩ .nil)))⟩,
    a_RULE_TRUTHS := a_RULE_TRUTHS, g_RULE_TRUTHS := PySem.W.mg_of X G x_RULE_TRUTHS, q_RULE_TRUTHS := fun H => .inr ⟨_, _, _, y_RULE_TRUTHS, rfl, rfl, (by show 5 ≤ sizeLine; decide), (.cons ⟨_, rfl⟩ (.cons ⟨_, rfl⟩ (.cons ⟨_, rfl⟩ (.cons ⟨_, rfl⟩ (.cons ⟨_, rfl⟩ .nil)))))⟩,
    a_WISH_NUMBERS := a_WISH_NUMBERS, g_WISH_NUMBERS := PySem.W.mg_of X G x_WISH_NUMBERS, q_WISH_NUMBERS := fun H => .inr ⟨_, _, _, y_WISH_NUMBERS, rfl, rfl, (by show 3 ≤ sizeLine; decide), (.cons ⟨_, rfl⟩ (.cons ⟨_, rfl⟩ (.cons ⟨_, rfl⟩ .nil)))⟩,
    a_WISH_TRUTHS := a_WISH_TRUTHS, g_WISH_TRUTHS := PySem.W.mg_of X G x_WISH_TRUTHS, q_WISH_TRUTHS := fun H => .inr ⟨_, _, _, y_WISH_TRUTHS, rfl, rfl, (by show 3 ≤ sizeLine; decide), (.cons ⟨_, rfl⟩ (.cons ⟨_, rfl⟩ (.cons ⟨_, rfl⟩ .nil)))⟩,
    m_all := PySem.W.mg_none_of X G z_all,
    m_enumerate := PySem.W.mg_none_of X G z_enumerate,
    m_int := PySem.W.mg_none_of X G z_int,
    m_isinstance := PySem.W.mg_none_of X G z_isinstance,
    m_len := PySem.W.mg_none_of X G z_len,
    m_max := PySem.W.mg_none_of X G z_max,
    m_min := PySem.W.mg_none_of X G z_min,
    m_range := PySem.W.mg_none_of X G z_range,
    m_str := PySem.W.mg_none_of X G z_str
  }
  exact ⟨T.fd_law, fun s v => .of_eq rfl, fun base _ _ => ok_law T⟩
end My
open PySem PySem.W PyProof.Rows
set_option maxHeartbeats 0 in
theorem PySem.Challenge.cw_pagelodge_k13_one_sign_otherwise_holds : PySem.Challenge.rw_pagelodge_k13_one_sign_otherwise.Holds := by
  w_on; o_law; k_head; (case hw => w_witness2)
  k_fill
  refine L2.walk_of (l := PySem.Challenge.rw_pagelodge_k13_one_sign_otherwise) (n := 63) (k := 7) (x := "_law_script") (CX := fun _ => L2.CX0) (sp := fun w => My.spLaw _) rfl (by decide) rfl ⟨rfl, by decide, by decide⟩ (fun w h Y => PySem.W.kIn_of Y) ?F (fun _ _ a ns hl _ hS => ⟨a, ns, rfl, hS, hl, fun _ => rfl⟩) (fun _ _ _ _ _ h => h)
  case F =>
    intro w mg fa h KX G hmg
    refine' My.all_mk KX G hmg ?aC_Rule ?pg_Rule ?hd_Rule ?po_Rule ?sa_Rule ?mk_Rule ?kc_Rule ?n_Rule_keep ?n_Rule_worn ?n_Rule_alone ?n_Rule_anew ?n_Rule_own ?n_Rule_common ?n_Rule_never ?n_Rule_strict ?aC_Wish ?pg_Wish ?hd_Wish ?po_Wish ?sa_Wish ?mk_Wish ?kc_Wish ?n_Wish_atmost ?n_Wish_left ?n_Wish_worn ?n_Wish_anew ?n_Wish_kept ?n_Wish_firm ?aC_NoRule ?aC_NoWish ?aC_PageError ?xL_NoRule ?sa_NoRule ?ga_NoRule ?gg_NoRule ?nb_NoRule ?kc_NoRule ?ec_NoRule ?tc_NoRule ?hc_NoRule ?cc_NoRule ?mc_NoRule ?sc_NoRule ?xL_NoWish ?sa_NoWish ?ga_NoWish ?gg_NoWish ?nb_NoWish ?kc_NoWish ?ec_NoWish ?tc_NoWish ?hc_NoWish ?cc_NoWish ?mc_NoWish ?sc_NoWish ?hn_cls ?htk_cls ?a0 ?l0 ?c0 ?k0 ?a1 ?l1 ?c1 ?k1 ?a2 ?l2 ?c2 ?k2 ?a3 ?l3 ?c3 ?k3 ?a4 ?l4 ?c4 ?k4 ?a5 ?l5 ?c5 ?k5 ?a6 ?l6 ?c6 ?k6 ?a7 ?l7 ?c7 ?k7 ?a8 ?l8 ?c8 ?k8 ?a9 ?l9 ?c9 ?k9 ?a10 ?l10 ?c10 ?k10 ?a11 ?l11 ?c11 ?k11 ?a12 ?l12 ?c12 ?k12 ?a13 ?l13 ?c13 ?k13 ?a14 ?l14 ?c14 ?k14 ?a15 ?l15 ?c15 ?k15 ?a16 ?l16 ?c16 ?k16 ?a17 ?l17 ?c17 ?k17 ?a18 ?l18 ?c18 ?k18 ?a19 ?l19 ?c19 ?k19 ?a20 ?l20 ?c20 ?k20 ?a21 ?l21 ?c21 ?k21 ?a22 ?l22 ?c22 ?k22 ?a23 ?l23 ?c23 ?k23 ?a24_NoRule ?i24 ?ty24 ?l24 ?c24 ?k24 ?a25_NoWish ?i25 ?ty25 ?l25 ?c25 ?k25 ?a26_Rule ?i26 ?l26 ?c26 ?k26 ?y_Rule_init_keep ?y_Rule_init_worn ?y_Rule_init_alone ?y_Rule_init_anew ?y_Rule_init_own ?y_Rule_init_common ?y_Rule_init_never ?y_Rule_init_strict ?a27_Wish ?i27 ?l27 ?c27 ?k27 ?y_Wish_init_atmost ?y_Wish_init_left ?y_Wish_init_worn ?y_Wish_init_anew ?y_Wish_init_kept ?y_Wish_init_firm ?x_LETTERS ?x_FIGURES ?x_LONGEST_NAME ?x_MOST_FIGURES ?x_RULE_NUMBERS ?y_RULE_NUMBERS ?x_RULE_TRUTHS ?y_RULE_TRUTHS ?x_WISH_NUMBERS ?y_WISH_NUMBERS ?x_WISH_TRUTHS ?y_WISH_TRUTHS ?z_all ?z_enumerate ?z_int ?z_isinstance ?z_len ?z_max ?z_min ?z_range ?z_str
    (case aC_Rule => k_is)
    (case pg_Rule => k_is)
    (case hd_Rule => k_is)
    (case po_Rule => k_is)
    (case sa_Rule => k_is)
    (case mk_Rule => k_is)
    (case kc_Rule => k_is)
    (case n_Rule_keep => k_is)
    (case n_Rule_worn => k_is)
    (case n_Rule_alone => k_is)
    (case n_Rule_anew => k_is)
    (case n_Rule_own => k_is)
    (case n_Rule_common => k_is)
    (case n_Rule_never => k_is)
    (case n_Rule_strict => k_is)
    (case aC_Wish => k_is)
    (case pg_Wish => k_is)
    (case hd_Wish => k_is)
    (case po_Wish => k_is)
    (case sa_Wish => k_is)
    (case mk_Wish => k_is)
    (case kc_Wish => k_is)
    (case n_Wish_atmost => k_is)
    (case n_Wish_left => k_is)
    (case n_Wish_worn => k_is)
    (case n_Wish_anew => k_is)
    (case n_Wish_kept => k_is)
    (case n_Wish_firm => k_is)
    (case aC_NoRule => k_is)
    (case aC_NoWish => k_is)
    (case aC_PageError => k_is)
    (case xL_NoRule => k_is)
    (case sa_NoRule => k_is)
    (case ga_NoRule => k_is)
    (case gg_NoRule => k_is)
    (case nb_NoRule => k_is)
    (case kc_NoRule => k_is)
    (case ec_NoRule => k_is)
    (case tc_NoRule => k_is)
    (case hc_NoRule => k_is)
    (case cc_NoRule => k_is)
    (case mc_NoRule => k_is)
    (case sc_NoRule => k_is)
    (case xL_NoWish => k_is)
    (case sa_NoWish => k_is)
    (case ga_NoWish => k_is)
    (case gg_NoWish => k_is)
    (case nb_NoWish => k_is)
    (case kc_NoWish => k_is)
    (case ec_NoWish => k_is)
    (case tc_NoWish => k_is)
    (case hc_NoWish => k_is)
    (case cc_NoWish => k_is)
    (case mc_NoWish => k_is)
    (case sc_NoWish => k_is)
    (case hn_cls => k_is)
    (case htk_cls => k_is)
    (case a0 => k_is)
    (case l0 => k_is)
    (case c0 => k_is)
    (case k0 => k_is)
    (case a1 => k_is)
    (case l1 => k_is)
    (case c1 => k_is)
    (case k1 => k_is)
    (case a2 => k_is)
    (case l2 => k_is)
    (case c2 => k_is)
    (case k2 => k_is)
    (case a3 => k_is)
    (case l3 => k_is)
    (case c3 => k_is)
    (case k3 => k_is)
    (case a4 => k_is)
    (case l4 => k_is)
    (case c4 => k_is)
    (case k4 => k_is)
    (case a5 => k_is)
    (case l5 => k_is)
    (case c5 => k_is)
    (case k5 => k_is)
    (case a6 => k_is)
    (case l6 => k_is)
    (case c6 => k_is)
    (case k6 => k_is)
    (case a7 => k_is)
    (case l7 => k_is)
    (case c7 => k_is)
    (case k7 => k_is)
    (case a8 => k_is)
    (case l8 => k_is)
    (case c8 => k_is)
    (case k8 => k_is)
    (case a9 => k_is)
    (case l9 => k_is)
    (case c9 => k_is)
    (case k9 => k_is)
    (case a10 => k_is)
    (case l10 => k_is)
    (case c10 => k_is)
    (case k10 => k_is)
    (case a11 => k_is)
    (case l11 => k_is)
    (case c11 => k_is)
    (case k11 => k_is)
    (case a12 => k_is)
    (case l12 => k_is)
    (case c12 => k_is)
    (case k12 => k_is)
    (case a13 => k_is)
    (case l13 => k_is)
    (case c13 => k_is)
    (case k13 => k_is)
    (case a14 => k_is)
    (case l14 => k_is)
    (case c14 => k_is)
    (case k14 => k_is)
    (case a15 => k_is)
    (case l15 => k_is)
    (case c15 => k_is)
    (case k15 => k_is)
    (case a16 => k_is)
    (case l16 => k_is)
    (case c16 => k_is)
    (case k16 => k_is)
    (case a17 => k_is)
    (case l17 => k_is)
    (case c17 => k_is)
    (case k17 => k_is)
    (case a18 => k_is)
    (case l18 => k_is)
    (case c18 => k_is)
    (case k18 => k_is)
    (case a19 => k_is)
    (case l19 => k_is)
    (case c19 => k_is)
    (case k19 => k_is)
    (case a20 => k_is)
    (case l20 => k_is)
    (case c20 => k_is)
    (case k20 => k_is)
    (case a21 => k_is)
    (case l21 => k_is)
    (case c21 => k_is)
    (case k21 => k_is)
    (case a22 => k_is)
    (case l22 => k_is)
    (case c22 => k_is)
    (case k22 => k_is)
    (case a23 => k_is)
    (case l23 => k_is)
    (case c23 => k_is)
    (case k23 => k_is)
    (case a24_NoRule => k_is)
    (case i24 => k_is)
    (case ty24 => k_is)
    (case l24 => k_is)
    (case c24 => k_is)
    (case k24 => k_is)
    (case a25_NoWish => k_is)
    (case i25 => k_is)
    (case ty25 => k_is)
    (case l25 => k_is)
    (case c25 => k_is)
    (case k25 => k_is)
    (case a26_Rule => k_is)
    (case i26 => k_is)
    (case l26 => k_is)
    (case c26 => k_is)
    (case k26 => k_is)
    (case y_Rule_init_keep => k_is)
    (case y_Rule_init_worn => k_is)
    (case y_Rule_init_alone => k_is)
    (case y_Rule_init_anew => k_is)
    (case y_Rule_init_own => k_is)
    (case y_Rule_init_common => k_is)
    (case y_Rule_init_never => k_is)
    (case y_Rule_init_strict => k_is)
    (case a27_Wish => k_is)
    (case i27 => k_is)
    (case l27 => k_is)
    (case c27 => k_is)
    (case k27 => k_is)
    (case y_Wish_init_atmost => k_is)
    (case y_Wish_init_left => k_is)
    (case y_Wish_init_worn => k_is)
    (case y_Wish_init_anew => k_is)
    (case y_Wish_init_kept => k_is)
    (case y_Wish_init_firm => k_is)
    (case x_LETTERS => k_is)
    (case x_FIGURES => k_is)
    (case x_LONGEST_NAME => k_is)
    (case x_MOST_FIGURES => k_is)
    (case x_RULE_NUMBERS => k_is)
    (case y_RULE_NUMBERS => k_is)
    (case x_RULE_TRUTHS => k_is)
    (case y_RULE_TRUTHS => k_is)
    (case x_WISH_NUMBERS => k_is)
    (case y_WISH_NUMBERS => k_is)
    (case x_WISH_TRUTHS => k_is)
    (case y_WISH_TRUTHS => k_is)
    (case z_all => k_is)
    (case z_enumerate => k_is)
    (case z_int => k_is)
    (case z_isinstance => k_is)
    (case z_len => k_is)
    (case z_max => k_is)
    (case z_min => k_is)
    (case z_range => k_is)
    (case z_str => k_is)
