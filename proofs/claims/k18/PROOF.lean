import PyProof.Rows.All
import Wide.All
import OpenK.AllK
import Wide.FinOn
import HandS.ForMost
import HandS.IsInst
import HandS.Walk
import HandS.Style
import HandS.Evl
import KE.SortData
import HandS.MakeKwOnly
import HandS.SortKw
import HandS.StrMore
import HandS.FStr
import KE.DataMinMax
import HandS.TryOnly
import KE.DataFind
import PySem.Challenge.RW_pagelodge_k18_whole_the_strictest_of_all
set_option Elab.async false
set_option linter.all false
set_option maxRecDepth 100000
set_option maxHeartbeats 4000000
namespace My
open PySem PySem.Spec PyProof.Rows L2 TL
/-- xs == [], xs != []: items of any kind -/
def rEqNil (K : PySem.W.Frag) : R2 := fun x y H Q => ∃ p q xs, x = .ref p ∧ y = .ref q ∧ SqL K H p xs ∧ SqL K H q [] ∧ Q (.bl xs.isEmpty) H
section
variable {X : Cx}
theorem op_eqNil (hu : X.A.units + 64 < cLine) : OpR X (compareOp .Eq) (rEqNil X.K) := by
  intro pins s σ H x y v u Q I rx ry h
  obtain ⟨p, q, xs, rfl, rfl, h1, h2, k⟩ := h
  obtain ⟨its, rv, hl, _⟩ := I.list h1
  obtain ⟨its2, rv2, hl2, _⟩ := I.list h2
  cases (show v = Value.ref p from rx)
  cases (show u = Value.ref q from ry)
  cases rv2
  cases rv with
  | nil => exact SeqAt.eq_listAt (e := fun _ => true) hl.isList hl2.isList rfl (by omega) (fun j h1 _ => absurd h1 (by simp)) ⟨.bl true, H, I, rfl, k⟩
  | cons a b => exact SeqAt.eq_list_lengthsAt hl.isList hl2.isList (by simp) (by omega) ⟨.bl false, H, I, rfl, k⟩
end
/-! ### heaps that change at the well alone -/
def W3 (a b c : Int) : HO := .lst [.int a, .int b, .int c]
def IsW (H : Hp) (W : Addr) : Prop := ∃ a b c, H W = some (W3 a b c)
structure Wx (W : Addr) (H H' : Hp) : Prop where
  keep : ∀ b o, b ≠ W → H b = some o → H' b = some o
  well : IsW H' W
theorem Wx.refl {W : Addr} {H : Hp} (h : IsW H W) : Wx W H H := ⟨fun _ _ _ e => e, h⟩
theorem Wx.trans {W : Addr} {H H1 H2 : Hp} (a : Wx W H H1) (b : Wx W H1 H2) : Wx W H H2 := ⟨fun c o n e => b.keep c o n (a.keep c o n e), b.well⟩
theorem Wx.free {W : Addr} {H H' : Hp} (e : Wx W H H') {p : Addr} (h : H' p = none) : H p = none := by
  cases q : H p with
  | none => rfl
  | some o =>
    by_cases hp : p = W
    · obtain ⟨a, b, c, hw⟩ := e.well
      rw [hp, hw] at h
      cases h
    · rw [e.keep p o hp q] at h
      cases h
theorem Wx.new {W : Addr} {H H' : Hp} (e : Wx W H H') {p : Addr} {o : HO} (h : H' p = none) : Wx W H (upd H' p o) := by
  obtain ⟨k, a, b, c, hw⟩ := e
  refine ⟨fun d u n q => ?_, a, b, c, ?_⟩
  · rw [upd_ne (ne_of_none (k d u n q) h)]
    exact k d u n q
  · rw [upd_ne (ne_of_none hw h)]
    exact hw
theorem Wx.set {W : Addr} {H H' : Hp} (e : Wx W H H') (a b c : Int) : Wx W H (upd H' W (W3 a b c)) := by
  refine ⟨fun d u n q => ?_, a, b, c, upd_same⟩
  rw [upd_ne n]
  exact e.keep d u n q
theorem IsW.ne {H : Hp} {W p : Addr} (h : IsW H W) (hp : H p = none) : W ≠ p := by
  obtain ⟨a, b, c, hw⟩ := h
  exact ne_of_none hw hp
theorem Wx.same {W : Addr} {H H1 H2 : Hp} (a : Wx W H H1) (b : Same H1 H2) : Wx W H H2 := by
  obtain ⟨k, x, y, z, hw⟩ := a
  exact ⟨fun c o n e => b c o (k c o n e), x, y, z, b _ _ hw⟩
/-- a list (other than the well) that is made here may change -/
theorem Wx.mut {W : Addr} {H H' : Hp} (e : Wx W H H') {p : Addr} {o : HO} (h : H p = none) (n : W ≠ p) : Wx W H (upd H' p o) := by
  obtain ⟨k, a, b, c, hw⟩ := e
  refine ⟨fun d u m q => ?_, a, b, c, ?_⟩
  · rw [upd_ne (ne_of_none q h)]
    exact k d u m q
  · rw [upd_ne n]
    exact hw
def spWell : Sp := fun vs H Q _ => ∃ n : Int, vs = [.int n] ∧ ∀ p a b c, H p = none → Q (.ref p) (upd H p (W3 a b c))
def spDraw : Sp := fun vs H Q _ => ∃ (W : Addr) (m : Int), vs = [.ref W, .int m] ∧ 0 < m ∧ m < 1073741824 ∧ IsW H W ∧ ∀ r H', 0 ≤ r → r < m → Wx W H H' → Q (.int r) H'
theorem mod_lt {n m : Int} (h : 0 < m) : 0 ≤ n % m ∧ n % m < m := ⟨Int.emod_nonneg n (by omega), Int.emod_lt_of_pos n h⟩
theorem cmul_of {i j : Int} (h : 0 ≤ i ∧ i < 2147483647) : CMul i j := .inl (by omega)
/-! ### texts and lists -/
theorem atI_in {α : Type} {xs : List α} {r : Int} (h0 : 0 ≤ r) (h1 : r < xs.length) : ∃ c, c ∈ xs ∧ atI xs r = some c := by
  obtain ⟨n, rfl⟩ : ∃ n : Nat, r = n := ⟨r.toNat, by omega⟩
  have hn : n < xs.length := by omega
  exact ⟨xs[n], List.getElem_mem hn, atI_nat (List.getElem?_eq_getElem hn)⟩
theorem len_tl (z : Str) : z.cps.toList.length = z.length := Array.length_toList
theorem joinL_one : ∀ t : List Nat, joinL [] (t.map fun c => [c]) = t
  | [] => rfl
  | [c] => rfl
  | c :: d :: r => by
    show [c] ++ ([] ++ joinL [] ((d :: r).map fun c => [c])) = c :: d :: r
    rw [joinL_one (d :: r)]
    rfl
theorem join_signs (y : Str) (hy : y.cps.toList = []) (t : List Nat) : Txt.join y (t.map fun c => (⟨#[c]⟩ : Str)) = ⟨t.toArray⟩ := by
  have e : tl (Txt.join y (t.map fun c => (⟨#[c]⟩ : Str))) = t := by
    rw [join_eq, tl_join, List.map_map]
    show joinL (y.cps.toList) (t.map fun c => [c]) = t
    rw [hy, joinL_one]
  rw [← mk_tl (Txt.join y (t.map fun c => (⟨#[c]⟩ : Str))), e]
theorem joinL_len (S : List Nat) : ∀ ps : List (List Nat), (joinL S ps).length ≤ (ps.map List.length).sum + ps.length * S.length
  | [] => Nat.zero_le _
  | [p] => by
    show p.length ≤ p.length + 0 + 1 * S.length
    omega
  | p :: q :: r => by
    have ih := joinL_len S (q :: r)
    show (p ++ (S ++ joinL S (q :: r))).length ≤ p.length + ((q :: r).map List.length).sum + ((q :: r).length + 1) * S.length
    rw [List.length_append, List.length_append, Nat.add_mul]
    omega
theorem join_len (y : Str) (ps : List Str) : (Txt.join y ps).length ≤ (ps.map (·.length)).sum + ps.length * y.length := by
  have h := joinL_len (tl y) (ps.map tl)
  rw [← tl_join, ← join_eq, List.map_map, List.length_map] at h
  have e : (ps.map (List.length ∘ tl)) = ps.map (·.length) := List.map_congr_left fun z _ => len_tl z
  rw [e] at h
  have e2 : (tl (Txt.join y ps)).length = (Txt.join y ps).length := len_tl _
  have e3 : (tl y).length = y.length := len_tl _
  rw [e2, e3] at h
  exact h
theorem sum_ones (t : List Nat) : ((t.map fun c => (⟨#[c]⟩ : Str)).map (·.length)).sum = t.length := by
  induction t with
  | nil => rfl
  | cons c r ih =>
    show 1 + ((r.map fun c => (⟨#[c]⟩ : Str)).map (·.length)).sum = r.length + 1
    rw [ih]
    omega
theorem sum_le {b : Nat} : ∀ ps : List Str, (∀ z ∈ ps, z.length ≤ b) → (ps.map (·.length)).sum ≤ ps.length * b
  | [], _ => Nat.zero_le _
  | z :: r, h => by
    have ih := sum_le r fun y hy => h y (List.mem_cons_of_mem _ hy)
    have hz := h z (List.mem_cons_self ..)
    show z.length + (r.map (·.length)).sum ≤ (r.length + 1) * b
    rw [Nat.add_mul]
    omega
theorem len_app (a b : Str) : (a ++ b).length = a.length + b.length := Array.size_append
theorem cutS_len (z : Str) (lo hi : Option Int) : (cutS z lo hi).length ≤ z.length := by
  show ((z.cps.toList.drop _).take _).toArray.size ≤ _
  rw [List.size_toArray, List.length_take, List.length_drop, len_tl]
  omega
theorem szl {n : Nat} (h : n ≤ 100000) : n ≤ sizeLine := Nat.le_trans h (by decide)
theorem szlt {n : Nat} (h : n < 100000) : n < sizeLine := Nat.lt_of_lt_of_le h (by decide)
def spSigns : Sp := fun vs H Q _ => ∃ (W : Addr) (z : Str) (m : Int), vs = [.ref W, .str z, .int m] ∧ 0 < z.length ∧ z.length ≤ 1000 ∧ 0 ≤ m ∧ m ≤ 1000 ∧ IsW H W ∧
  ∀ (t : List Nat) H', t.length = m.toNat → (∀ c ∈ t, c ∈ z.cps.toList) → Wx W H H' → Q (.str ⟨t.toArray⟩) H'
theorem ints_at {ns : List Int} {r : Int} (h0 : 0 ≤ r) (h1 : r < ns.length) : ∃ n, n ∈ ns ∧ atI (ns.map V.int) r = some (.int n) := by
  obtain ⟨v, hv, ev⟩ := atI_in (xs := ns.map V.int) h0 (by rw [List.length_map]; exact h1)
  obtain ⟨n, hn, rfl⟩ := List.mem_map.mp hv
  exact ⟨n, hn, ev⟩
theorem strs_at {ns : List Str} {r : Int} (h0 : 0 ≤ r) (h1 : r < ns.length) : ∃ n, n ∈ ns ∧ atI (ns.map V.str) r = some (.str n) := by
  obtain ⟨v, hv, ev⟩ := atI_in (xs := ns.map V.str) h0 (by rw [List.length_map]; exact h1)
  obtain ⟨n, hn, rfl⟩ := List.mem_map.mp hv
  exact ⟨n, hn, ev⟩
theorem mk_len (t : List Nat) : (⟨t.toArray⟩ : Str).length = t.length := List.size_toArray
def spText (b : Nat) : Sp := fun vs H Q _ => ∃ (W : Addr), vs = [.ref W] ∧ IsW H W ∧ ∀ t H', t.length ≤ b → Wx W H H' → Q (.str t) H'
theorem same_upd {H : Hp} {p : Addr} {o : HO} (h : H p = none) : Same H (upd H p o) := fun b x e => by
  rw [upd_ne (ne_of_none e h)]
  exact e
theorem same_mut {H H' : Hp} {p : Addr} {o : HO} (e : Same H H') (h : H p = none) : Same H (upd H' p o) := fun a u ha => by
  rw [upd_ne (ne_of_none ha h)]
  exact e a u ha
theorem take_map {α β : Type} {xs : List α} {i : Nat} {c : α} (f : α → β) (h : xs[i]? = some c) : (xs.take (i + 1)).map f = (xs.take i).map f ++ [f c] := by
  rw [List.take_add_one, h, List.map_append]
  rfl
theorem at_l {z : Str} {i c : Nat} (h : z.cps[i]? = some c) : z.cps.toList[i]? = some c := by
  rw [Array.getElem?_toList]
  exact h
theorem filter_take {α β : Type} {xs : List α} {i : Nat} {c : α} (p : α → Bool) (f : α → β) (h : xs[i]? = some c) : ((xs.take (i + 1)).filter p).map f = ((xs.take i).filter p).map f ++ (if p c = true then [f c] else []) := by
  rw [List.take_add_one, h, List.filter_append, List.map_append]
  by_cases hp : p c = true
  · rw [if_pos hp]
    simp [hp]
  · rw [if_neg hp]
    simp [hp]
theorem all_filter {α : Type} (p : α → Bool) (xs : List α) : ((xs.filter fun c => !p c)).isEmpty = xs.all p := by
  induction xs with
  | nil => rfl
  | cons a r ih =>
    cases h : p a with
    | true => simp only [List.filter_cons, h, List.all_cons, Bool.not_true, Bool.true_and]; exact ih
    | false => simp [List.filter_cons, h, List.all_cons]
theorem isEmpty_map {α β : Type} (f : α → β) (xs : List α) : (xs.map f).isEmpty = xs.isEmpty := by
  cases xs <;> rfl
theorem str_at {ss : List Str} {i : Nat} {x : V} (h : (ss.map V.str)[i]? = some x) : ∃ y, x = .str y ∧ ss[i]? = some y ∧ y ∈ ss := by
  rw [List.getElem?_map] at h
  cases e : ss[i]? with
  | none =>
    rw [e] at h
    cases h
  | some y =>
    rw [e] at h
    cases h
    exact ⟨y, rfl, rfl, List.mem_of_getElem? e⟩
theorem cutV_map {α : Type} (f : α → V) (ns : List α) (lo hi : Option Int) : ∃ ms : List α, cutV (ns.map f) lo hi = ms.map f ∧ ms.length ≤ ns.length := by
  refine ⟨(ns.drop (HT.sIx ns.length 0 lo)).take (HT.sIx ns.length ns.length hi - HT.sIx ns.length 0 lo), ?_, ?_⟩
  · unfold cutV
    rw [List.length_map, List.map_take, List.map_drop]
  · rw [List.length_take, List.length_drop]
    omega
theorem int_at {ns : List Int} {i : Nat} {x : V} (h : (ns.map V.int)[i]? = some x) : ∃ n, x = .int n := by
  rw [List.getElem?_map] at h
  cases e : ns[i]? with
  | none =>
    rw [e] at h
    cases h
  | some y =>
    rw [e] at h
    cases h
    exact ⟨y, rfl⟩
theorem dp_bools {K : PySem.W.Frag} {H : Hp} : ∀ bs : List Bool, DpAll K H (bs.map V.bl) (bs.map PyData.bool)
  | [] => .nil
  | b :: r => .cons (.bl b) (dp_bools r)
theorem lay_bools : ∀ bs : List Bool, PyData.canLayAll0 (bs.map PyData.bool) = true
  | [] => rfl
  | _ :: r => by simp [PyData.canLayAll0, PyData.canLay0, lay_bools r]
theorem depth_bools : ∀ bs : List Bool, PyData.depthAll (bs.map PyData.bool) = 0
  | [] => rfl
  | _ :: r => by simp [PyData.depthAll, PyData.depth, depth_bools r]
theorem shaped_bools (bs : List Bool) : SeqAt.shaped (.list (bs.map PyData.bool)) = true := by
  simp [SeqAt.shaped, PyData.canLay0, PyData.depth, lay_bools, depth_bools]
theorem eqv_bools (bs : List Bool) : PyData.eqv (.list (bs.map PyData.bool)) (.list (bs.map PyData.bool)) = true := SeqAt.eqv_refl _ (by simp [PyData.canLay0, lay_bools])
def spLaw (K : PySem.W.Frag) : Sp := fun vs H Q _ => ∃ (a : Addr) (ns : List Int), vs = [.ref a] ∧ SqL K H a (ns.map V.int) ∧ ns.length ≤ 63 ∧ ∀ H', Q (.bl true) H'
/-! ### sorted(xs) of data that are alike, any length: the items by letters of a type B, their values, their data -/
section
variable {B : Type} {val : B → V} {enc : B → PyData}
theorem vals_each : ∀ {bs : List B} {us : List Value}, Vals (bs.map val) us → PySem.W.EachIs (fun u b => RelV (val b) u) us bs
  | [], _, r => by
    cases r
    exact .nil
  | b :: bs, _, r => by
    cases r with
    | cons h t => exact .cons h (vals_each t)
theorem each_vals : ∀ {bs : List B} {us : List Value}, PySem.W.EachIs (fun u b => RelV (val b) u) us bs → Vals (bs.map val) us
  | _, _, .nil => .nil
  | _, _, .cons h t => .cons h (each_vals t)
theorem each_reads {X : Cx} {pins : List (Addr × Obj)} {σ : L2.St} {H : Hp} {s : Shared} (I : Inv X pins σ H s) : ∀ {bs : List B} {us : List Value}, (∀ b ∈ bs, Dp X.K H (val b) (enc b)) → PySem.W.EachIs (fun u b => RelV (val b) u) us bs → PySem.W.EachIs (fun u b => ∃ as, Reads s.heap u (enc b) as) us bs
  | _, _, _, .nil => .nil
  | _, _, hd, .cons h t => .cons (Dp.reads I _ _ _ (hd _ (List.mem_cons_self ..)) h) (each_reads I (fun b hb => hd b (List.mem_cons_of_mem _ hb)) t)
def sortB (enc : B → PyData) (bs : List B) : List B := bs.mergeSort (PySem.W.dataLe false enc)
def rSortB (K : PySem.W.Frag) (val : B → V) (enc : B → PyData) : List V → Hp → VK → Prop := fun vs H Q => ∃ (a : Addr) (bs : List B), vs = [V.ref a] ∧ SqL K H a (bs.map val) ∧ (∀ b ∈ bs, Dp K H (val b) (enc b)) ∧ PySem.W.AllAlike (bs.map enc) ∧ PySem.W.Sortable (bs.map enc) ∧
  (∀ b ∈ bs, (enc b).depth ≤ 60) ∧ ∀ p, H p = none → Q (.ref p) (upd H p (.lst ((sortB enc bs).map val)))
theorem cr_sortB {X : Cx} (val : B → V) (enc : B → PyData) (hu : X.A.units + 64 < cLine) : CallR X (.builtin "sorted") (rSortB X.K val enc) := by
  intro pins s σ H vs us Q I r h
  obtain ⟨a, bs, rfl, hs, hd, ha, hk, hdp, q⟩ := h
  obtain ⟨its, rv, hl, hz⟩ := I.list hs
  rw [Vals.ref1 r]
  have e1 := vals_each rv
  rw [List.length_map] at hz
  refine PySem.W.sorted_data (enc := enc) hl.isList e1 (each_reads I hd e1) ha hk hz (fun b hb => by have := hdp b hb; omega) fun out ho eo => ?_
  obtain ⟨ep, he'⟩ := PyProof.Rows.sortedAll_at s.heap its out.toArray
  have hlen : ((sortB enc bs).map val).length ≤ sizeLine := by
    rw [List.length_map]
    unfold sortB
    rw [List.length_mergeSort]
    exact hz
  exact ⟨.ref _, upd H (s.heap.objs.size + 1) (.lst ((sortB enc bs).map val)), I.laid (t' := s.toks) (fun _ _ => PyProof.Rows.sortedAll_old) (Nat.le_succ _) ⟨hlen, out, ep, each_vals eo, he'⟩, rfl, q _ (I.hok.fresh (Nat.le_succ _))⟩
theorem sortB_perm (enc : B → PyData) (bs : List B) : (sortB enc bs).Perm bs := List.mergeSort_perm ..
theorem sortB_sorted (enc : B → PyData) (bs : List B) : (sortB enc bs).Pairwise fun a b => PySem.W.dataLe false enc a b = true := PySem.W.sort_pairwise (PySem.W.sortLe_total _ _ _) bs
end
theorem perm_sorted_eq {α : Type} {r : α → α → Prop} (anti : ∀ a b, r a b → r b a → a = b) : ∀ A B : List α, A.Pairwise r → B.Pairwise r → A.Perm B → A = B
  | [], B, _, _, h => (List.Perm.nil_eq h)
  | a :: A, [], _, _, h => absurd h.length_eq (by simp)
  | a :: A, b :: B, ha, hb, h => by
    have e : a = b := by
      rcases List.mem_cons.mp (h.mem_iff.mp (List.mem_cons_self ..)) with e | e
      · exact e
      · rcases List.mem_cons.mp (h.mem_iff.mpr (List.mem_cons_self ..)) with e' | e'
        · exact e'.symm
        · exact anti a b ((List.pairwise_cons.mp ha).1 b e') ((List.pairwise_cons.mp hb).1 a e)
    subst e
    rw [perm_sorted_eq anti A B (List.pairwise_cons.mp ha).2 (List.pairwise_cons.mp hb).2 (List.Perm.cons_inv h)]
/-! ### pairs of texts, in order -/
def ltS (a b : Str) : Prop := a.cps.toList < b.cps.toList
instance (a b : Str) : Decidable (ltS a b) := inferInstanceAs (Decidable (a.cps.toList < b.cps.toList))
theorem ltS_irr (a : Str) : ¬ ltS a a := List.lt_irrefl _
theorem ltS_trans {a b c : Str} (h : ltS a b) (h2 : ltS b c) : ltS a c := List.lt_trans h h2
theorem ltS_tri (a b : Str) : ltS a b ∨ a = b ∨ ltS b a := by
  by_cases h : ltS a b
  · exact .inl h
  · by_cases h2 : ltS b a
    · exact .inr (.inr h2)
    · exact .inr (.inl (PyProof.Rows.ext_toList (List.le_antisymm (List.not_lt.mp h2) (List.not_lt.mp h))))
def leSS (p q : Str × Str) : Prop := ltS p.1 q.1 ∨ (p.1 = q.1 ∧ ¬ ltS q.2 p.2)
theorem leSS_anti (p q : Str × Str) (h : leSS p q) (h2 : leSS q p) : p = q := by
  obtain ⟨a, b⟩ := p
  obtain ⟨c, d⟩ := q
  rcases h with h | ⟨e, h⟩
  · rcases h2 with h2 | ⟨e2, h2⟩
    · exact absurd (ltS_trans h h2) (ltS_irr _)
    · have e2' : c = a := e2
      subst e2'
      exact absurd h (ltS_irr _)
  · have e' : a = c := e
    subst e'
    rcases h2 with h2 | ⟨e2, h2⟩
    · exact absurd h2 (ltS_irr _)
    · rcases ltS_tri b d with x | x | x
      · exact absurd x h2
      · rw [x]
      · exact absurd x h
theorem dataLe_ss {B : Type} (x y : B → Str) (p q : B) (h : PySem.W.dataLe false (fun b => .tuple [.str (x b), .str (y b)]) p q = true) : leSS (x p, y p) (x q, y q) := by
  have e : PySem.W.dataLt (.tuple [.str (x q), .str (y q)]) (.tuple [.str (x p), .str (y p)]) = false := by
    have h' : (!PySem.W.dataLt (.tuple [.str (x q), .str (y q)]) (.tuple [.str (x p), .str (y p)])) = true := h
    simpa using h'
  rw [PySem.W.dataLt_pair (by simp [PySem.W.alike]) (by simp [PySem.W.alike]), PySem.W.dataLt_str, PySem.W.dataLt_str] at e
  simp only [PyData.eqv, beq_iff_eq] at e
  by_cases h1 : x q = x p
  · rw [if_pos h1] at e
    by_cases h2 : y q = y p
    · refine .inr ⟨h1.symm, fun z => ?_⟩
      have z' : ltS (y q) (y p) := z
      rw [h2] at z'
      exact ltS_irr _ z'
    · rw [if_neg h2] at e
      exact .inr ⟨h1.symm, of_decide_eq_false e⟩
  · rw [if_neg h1] at e
    rcases ltS_tri (x p) (x q) with z | z | z
    · exact .inl z
    · exact absurd z.symm h1
    · exact absurd z (of_decide_eq_false e)
end My
namespace My
open PySem PySem.Spec PyProof.Rows L2 TL
def Asc (z : Str) : Prop := ∀ c ∈ z.cps.toList, c < 128
instance (z : Str) : Decidable (Asc z) := inferInstanceAs (Decidable (∀ c ∈ z.cps.toList, c < 128))
theorem asc_mk {t : List Nat} (h : ∀ c ∈ t, c < 128) : Asc ⟨t.toArray⟩ := fun c hc => h c (by simpa using hc)
theorem asc_app {a b : Str} (ha : Asc a) (hb : Asc b) : Asc (a ++ b) := by
  intro c hc
  have e : (a ++ b).cps.toList = a.cps.toList ++ b.cps.toList := Array.toList_append
  rw [e] at hc
  rcases List.mem_append.mp hc with h | h
  · exact ha c h
  · exact hb c h
theorem asc_cut {z : Str} (h : Asc z) (lo hi : Option Int) : Asc (cutS z lo hi) := by
  refine asc_mk fun c hc => h c ?_
  exact List.mem_of_mem_drop (List.mem_of_mem_take hc)
theorem inV_strs (x : Str) (F : List Str) : inV (.str x) (F.map V.str) = decide (x ∈ F) := by
  unfold inV
  rw [List.any_map, Bool.eq_iff_iff, List.any_eq_true, decide_eq_true_iff]
  constructor
  · rintro ⟨y, hy, e⟩
    have e' : (y == x) = true := e
    rw [← eq_of_beq e']
    exact hy
  · intro h
    exact ⟨x, h, by show (x == x) = true; exact beq_self_eq_true x⟩
theorem flat_strs (F : List Str) : (F.map V.str).all flatV = true := by
  rw [List.all_map, List.all_eq_true]
  intro x _
  rfl
/-! ### texts as data -/
theorem dp_strs {K : PySem.W.Frag} {H : Hp} : ∀ F : List Str, DpAll K H (F.map V.str) (F.map PyData.str)
  | [] => .nil
  | b :: r => .cons (.str b) (dp_strs r)
theorem ok_asc {z : Str} (h : Asc z) : PyData.strOk z = true := by
  unfold PyData.strOk
  rw [Array.all_eq_true']
  intro c hc
  have : c < 128 := h c (by simpa using hc)
  exact decide_eq_true (by omega)
theorem lay_strs : ∀ F : List Str, (∀ z ∈ F, Asc z) → PyData.canLayAll0 (F.map PyData.str) = true
  | [], _ => rfl
  | z :: r, h => by simp [PyData.canLayAll0, PyData.canLay0, ok_asc (h z (List.mem_cons_self ..)), lay_strs r fun y hy => h y (List.mem_cons_of_mem _ hy)]
theorem depth_strs : ∀ F : List Str, PyData.depthAll (F.map PyData.str) = 0
  | [] => rfl
  | _ :: r => by simp [PyData.depthAll, PyData.depth, depth_strs r]
theorem shaped_strs (F : List Str) (h : ∀ z ∈ F, Asc z) : SeqAt.shaped (.list (F.map PyData.str)) = true := by
  simp [SeqAt.shaped, PyData.canLay0, PyData.depth, lay_strs F h, depth_strs]
end My
namespace My
open PySem PySem.Spec PyProof.Rows L2 TL
/-! ### calls with keywords: the parameters' values picked out of those that lack and those that are told -/
def pickKw {α : Type} : List (Nat ⊕ Nat) → List α → List α → List α
  | [], _, _ => []
  | .inl i :: r, mv, ws => (mv[i]?).toList ++ pickKw r mv ws
  | .inr i :: r, mv, ws => (ws[i]?).toList ++ pickKw r mv ws
theorem vals_opt {xs : List V} {us : List Value} (r : Vals xs us) (i : Nat) : (xs[i]? = none ∧ us[i]? = none) ∨ ∃ x u, xs[i]? = some x ∧ us[i]? = some u ∧ RelV x u := by
  cases e : xs[i]? with
  | some x =>
    obtain ⟨u, h, ru⟩ := r.get e
    exact .inr ⟨x, u, rfl, h, ru⟩
  | none =>
    have h := List.getElem?_eq_none_iff.mp e
    rw [r.length] at h
    exact .inl ⟨rfl, List.getElem?_eq_none_iff.mpr h⟩
theorem opt_vals {xs : List V} {us : List Value} (r : Vals xs us) (i : Nat) : Vals (xs[i]?).toList (us[i]?).toList := by
  rcases vals_opt r i with ⟨e1, e2⟩ | ⟨x, u, e1, e2, h⟩
  · rw [e1, e2]
    exact .nil
  · rw [e1, e2]
    exact .cons h .nil
theorem pick_vals {mz zs : List V} {mv ws : List Value} (r2 : Vals mz mv) (r3 : Vals zs ws) : ∀ sel : List (Nat ⊕ Nat), Vals (pickKw sel mz zs) (pickKw sel mv ws)
  | [] => .nil
  | .inl i :: r => (opt_vals r2 i).append (pick_vals r2 r3 r)
  | .inr i :: r => (opt_vals r3 i).append (pick_vals r2 r3 r)
theorem pick_rel (sel : List (Nat ⊕ Nat)) {vs mz zs : List V} {us mv ws : List Value} (r1 : Vals vs us) (r2 : Vals mz mv) (r3 : Vals zs ws) : Vals (vs ++ pickKw sel mz zs) (us ++ pickKw sel mv ws) := r1.append (pick_vals r2 r3 sel)
/-! ### an expression, a test, by what it gives: the rest is read once -/
section
variable {X : Cx}
def tPure (t : TE) : TE := fun σ H Q => ∃ v, t σ H (fun y H' => y = v ∧ H' = H) ∧ Q v H
theorem pe_pure {e : Expr} {t : TE} (h : PE X e t) : PE X e (tPure t) := by
  refine ⟨fun pins s σ H Q I hw => ?_⟩
  obtain ⟨v, h1, h2⟩ := hw
  refine thn (h.run pins s σ H _ I h1) fun u s1 ⟨x, H1, I1, r1, q1⟩ => ?_
  obtain ⟨rfl, rfl⟩ := q1
  exact ⟨x, H1, I1, r1, h2⟩
def tPureT (t : TT) : TT := fun σ H Q => ∃ b, t σ H (fun y H' => y = b ∧ H' = H) ∧ Q b H
theorem pt_pure {e : Expr} {t : TT} (h : PT X e t) : PT X e (tPureT t) := by
  refine ⟨fun pins s σ H Q I hw => ?_⟩
  obtain ⟨v, h1, h2⟩ := hw
  refine thn (h.run pins s σ H _ I h1) fun u s1 ⟨H1, I1, q1⟩ => ?_
  obtain ⟨rfl, rfl⟩ := q1
  exact ⟨H1, I1, h2⟩
def tMid (t : TE) : TE := fun σ H Q => ∃ R : VK, t σ H R ∧ ∀ v H', R v H' → Q v H'
theorem pe_mid {e : Expr} {t : TE} (h : PE X e t) : PE X e (tMid t) := by
  refine ⟨fun pins s σ H Q I hw => ?_⟩
  obtain ⟨R, h1, h2⟩ := hw
  exact thn (h.run pins s σ H _ I h1) fun u s1 ⟨x, H1, I1, r1, q1⟩ => ⟨x, H1, I1, r1, h2 _ _ q1⟩
def tMidT (t : TT) : TT := fun σ H Q => ∃ R : Bool → Hp → Prop, t σ H R ∧ ∀ b H', R b H' → Q b H'
theorem pt_mid {e : Expr} {t : TT} (h : PT X e t) : PT X e (tMidT t) := by
  refine ⟨fun pins s σ H Q I hw => ?_⟩
  obtain ⟨R, h1, h2⟩ := hw
  exact thn (h.run pins s σ H _ I h1) fun u s1 ⟨H1, I1, q1⟩ => ⟨H1, I1, h2 _ _ q1⟩
end
/-! ### fields -/
theorem len_putF (f : Str) (v : V) : ∀ fs : List (Str × V), (putF f v fs).length ≤ fs.length + 1
  | [] => Nat.le_refl _
  | (g, x) :: r => by
    unfold putF
    split
    · exact Nat.le_succ _
    · exact Nat.succ_le_succ (len_putF f v r)
theorem few {n : Nat} {f : Str} {v : V} {fs : List (Str × V)} (h : fs.length ≤ n) : (putF f v fs).length ≤ n + 1 := Nat.le_trans (len_putF f v fs) (Nat.succ_le_succ h)
theorem few0 : ([] : List (Str × V)).length ≤ 0 := Nat.le_refl _
theorem fewL {n m : Nat} (h : n ≤ m) (k : m < 1000) : n < 1000 := Nat.lt_of_le_of_lt h k
theorem ne_same {K : PySem.W.Frag} {H : Hp} {x y : V} {d : PyData} {Q : VK} (hx : Dp K H x d) (hy : Dp K H y d) (sh : SeqAt.shaped d = true) (q : Q (.bl false) H) : rNeD K x y H Q := by
  refine ⟨d, d, hx, hy, sh, sh, ?_⟩
  rw [SeqAt.eqv_refl _ (SeqAt.canLay_of_shaped sh)]
  exact q
theorem kit2 {K : PySem.W.Frag} {n m : String} {b : Bool} (h : kitB n m = some b) : PySem.W.kitOne K (.type n) (.type m) = some b := kit_ty h
def oV : Option Int → V
  | none => .non
  | some n => .int n
def od : Option Int → PyData
  | none => .none
  | some n => .int n
theorem dp_od {K : PySem.W.Frag} {H : Hp} (x : Option Int) : Dp K H (oV x) (od x) := by
  cases x with
  | none => exact .non
  | some n => exact .int n
end My
namespace My
open PySem PySem.Spec PyProof.Rows L2 TL
/-! ### min(xs, default=d), max(xs, default=d) of ints -/
def minI : List Int → Option Int
  | [] => none
  | n :: ns => some (ns.foldl min n)
def maxI : List Int → Option Int
  | [] => none
  | n :: ns => some (ns.foldl max n)
def orV (d : V) : Option Int → V
  | none => d
  | some m => .int m
theorem dp_ints {K : PySem.W.Frag} {H : Hp} : ∀ ns : List Int, DpAll K H (ns.map V.int) (ns.map PyData.int)
  | [] => .nil
  | b :: r => .cons (.int b) (dp_ints r)
theorem depth_ints : ∀ ns : List Int, PyData.depthAll (ns.map PyData.int) = 0
  | [] => rfl
  | _ :: r => by simp [PyData.depthAll, PyData.depth, depth_ints r]
theorem alike_ints (ns : List Int) : PySem.W.AlikeAll (ns.map PyData.int) := by
  refine ⟨fun x hx y hy => ?_, fun x hx => ?_⟩
  · obtain ⟨a, _, rfl⟩ := List.mem_map.mp hx
    obtain ⟨b, _, rfl⟩ := List.mem_map.mp hy
    simp [PySem.W.alike]
  · obtain ⟨a, _, rfl⟩ := List.mem_map.mp hx
    intro z
    cases z
def rDf (K : PySem.W.Frag) (f : List Int → Option Int) : List V → List V → Hp → VK → Prop := fun xs zs H Q => ∃ (a : Addr) (ns : List Int) (d : V), xs = [.ref a] ∧ zs = [d] ∧ SqL K H a (ns.map V.int) ∧ Q (orV d (f ns)) H
theorem cr_minDf {X : Cx} (hc : X.calm = true) (hu : X.A.units + 64 < cLine) : CallRK X (.builtin "min") ["default"] (rDf X.K minI) := by
  intro pins s σ H xs zs us ws Q I r rz h
  obtain ⟨a, ns, d, rfl, rfl, hs, q⟩ := h
  obtain ⟨its, rv, hl, _⟩ := I.list hs
  rw [Vals.ref1 r]
  obtain ⟨u, rfl, ru⟩ := rz.one
  obtain ⟨as, ra⟩ := Dp.readsAll I _ _ _ (dp_ints ns) rv
  refine PySem.W.min_list_default (xs := ns.map PyData.int) (I.ok.hd hc) hl.isList (by simpa using ra) (alike_ints ns) (by rw [depth_ints]; omega) (fun e h' tk hk => ?_) (fun y ys i v h' tk bs e hv rd hk => ?_)
  · cases ns with
    | nil => exact ⟨d, H, I.kept hk, ru, q⟩
    | cons n r => cases e
  · cases ns with
    | nil => cases e
    | cons n r =>
      cases e
      rw [PySem.W.minD_ints] at rd
      cases rd
      exact ⟨.int _, H, I.kept hk, ⟨_, rfl⟩, q⟩
theorem cr_maxDf {X : Cx} (hc : X.calm = true) (hu : X.A.units + 64 < cLine) : CallRK X (.builtin "max") ["default"] (rDf X.K maxI) := by
  intro pins s σ H xs zs us ws Q I r rz h
  obtain ⟨a, ns, d, rfl, rfl, hs, q⟩ := h
  obtain ⟨its, rv, hl, _⟩ := I.list hs
  rw [Vals.ref1 r]
  obtain ⟨u, rfl, ru⟩ := rz.one
  obtain ⟨as, ra⟩ := Dp.readsAll I _ _ _ (dp_ints ns) rv
  refine PySem.W.max_list_default (xs := ns.map PyData.int) (I.ok.hd hc) hl.isList (by simpa using ra) (alike_ints ns) (by rw [depth_ints]; omega) (fun e h' tk hk => ?_) (fun y ys i v h' tk bs e hv rd hk => ?_)
  · cases ns with
    | nil => exact ⟨d, H, I.kept hk, ru, q⟩
    | cons n r => cases e
  · cases ns with
    | nil => cases e
    | cons n r =>
      cases e
      rw [PySem.W.maxD_ints] at rd
      cases rd
      exact ⟨.int _, H, I.kept hk, ⟨_, rfl⟩, q⟩
/-! ### x is True, x is False, whatever x is -/
def rIsA : R2 := fun x y H Q => ∃ b : Bool, y = .bl b ∧ Q (.bl (decide (x = .bl b))) H
def rNotA : R2 := fun x y H Q => ∃ b : Bool, y = .bl b ∧ Q (.bl (!decide (x = .bl b))) H
theorem op_isA {X : Cx} : OpR X (compareOp .Is) rIsA := by
  intro pins s σ H x y v u Q I rx ry h
  obtain ⟨b, rfl, q⟩ := h
  cases (show u = Value.bool b from ry)
  cases x with
  | bl a =>
    cases (show v = Value.bool a from rx)
    by_cases e : a = b
    · subst e
      exact wpAny_is_self rfl ⟨.bl true, H, I, rfl, by simpa using q⟩
    · exact wpAny_is_other rfl (fun z => e (Value.bool.inj z)) ⟨.bl false, H, I, rfl, by simpa [e] using q⟩
  | non =>
    cases (show v = Value.none from rx)
    exact wpAny_is_other rfl (fun z => by cases z) ⟨.bl false, H, I, rfl, by simpa using q⟩
  | int i =>
    obtain ⟨t, rfl⟩ := rx
    exact wpAny_is_other rfl (fun z => by cases z) ⟨.bl false, H, I, rfl, by simpa using q⟩
  | str i =>
    obtain ⟨t, rfl⟩ := rx
    exact wpAny_is_other rfl (fun z => by cases z) ⟨.bl false, H, I, rfl, by simpa using q⟩
  | byt i =>
    obtain ⟨t, rfl⟩ := rx
    exact wpAny_is_other rfl (fun z => by cases z) ⟨.bl false, H, I, rfl, by simpa using q⟩
  | flt i =>
    obtain ⟨t, rfl⟩ := rx
    exact wpAny_is_other rfl (fun z => by cases z) ⟨.bl false, H, I, rfl, by simpa using q⟩
  | ref i =>
    cases (show v = Value.ref i from rx)
    exact wpAny_is_other rfl (fun z => by cases z) ⟨.bl false, H, I, rfl, by simpa using q⟩
  | ty i =>
    cases (show v = Value.type i from rx)
    exact wpAny_is_other rfl (fun z => by cases z) ⟨.bl false, H, I, rfl, by simpa using q⟩
theorem op_notA {X : Cx} : OpR X (compareOp .IsNot) rNotA := by
  intro pins s σ H x y v u Q I rx ry h
  obtain ⟨b, rfl, q⟩ := h
  cases (show u = Value.bool b from ry)
  cases x with
  | bl a =>
    cases (show v = Value.bool a from rx)
    by_cases e : a = b
    · subst e
      exact wpAny_isNot_self rfl ⟨.bl false, H, I, rfl, by simpa using q⟩
    · exact wpAny_isNot_other rfl (fun z => e (Value.bool.inj z)) ⟨.bl true, H, I, rfl, by simpa [e] using q⟩
  | non =>
    cases (show v = Value.none from rx)
    exact wpAny_isNot_other rfl (fun z => by cases z) ⟨.bl true, H, I, rfl, by simpa using q⟩
  | int i =>
    obtain ⟨t, rfl⟩ := rx
    exact wpAny_isNot_other rfl (fun z => by cases z) ⟨.bl true, H, I, rfl, by simpa using q⟩
  | str i =>
    obtain ⟨t, rfl⟩ := rx
    exact wpAny_isNot_other rfl (fun z => by cases z) ⟨.bl true, H, I, rfl, by simpa using q⟩
  | byt i =>
    obtain ⟨t, rfl⟩ := rx
    exact wpAny_isNot_other rfl (fun z => by cases z) ⟨.bl true, H, I, rfl, by simpa using q⟩
  | flt i =>
    obtain ⟨t, rfl⟩ := rx
    exact wpAny_isNot_other rfl (fun z => by cases z) ⟨.bl true, H, I, rfl, by simpa using q⟩
  | ref i =>
    cases (show v = Value.ref i from rx)
    exact wpAny_isNot_other rfl (fun z => by cases z) ⟨.bl true, H, I, rfl, by simpa using q⟩
  | ty i =>
    cases (show v = Value.type i from rx)
    exact wpAny_isNot_other rfl (fun z => by cases z) ⟨.bl true, H, I, rfl, by simpa using q⟩
end My
namespace My
open PySem PySem.Spec PyProof.Rows L2 TL
def topS (i : Nat) : Stmt := PySem.Challenge.pw_pagelodge_k18_whole_the_strictest_of_all.main.body.getD i (.Pass ⟨0, 0, 0, 0⟩)
abbrev s_lesser : Stmt := topS 5
theorem sc_lesser : FnScope ["one", "other"] ["one", "other"] (defScope s_lesser) := ⟨rfl, rfl, rfl, by decide +kernel, rfl, by decide +kernel, by decide +kernel⟩
abbrev s_lets : Stmt := topS 7
theorem sc_lets : FnScope ["rule", "wish", "age"] ["rule", "wish", "age"] (defScope s_lets) := ⟨rfl, rfl, rfl, by decide +kernel, rfl, by decide +kernel, by decide +kernel⟩
abbrev s_serves : Stmt := topS 8
theorem sc_serves : FnScope ["rule", "wish", "age", "alone", "word"] ["rule", "wish", "age", "alone"] (defScope s_serves) := ⟨rfl, rfl, rfl, by decide +kernel, rfl, by decide +kernel, by decide +kernel⟩
abbrev s_law_well : Stmt := topS 10
theorem sc_law_well : FnScope ["_law_cell"] ["_law_cell"] (defScope s_law_well) := ⟨rfl, rfl, rfl, by decide +kernel, rfl, by decide +kernel, by decide +kernel⟩
abbrev s_law_draw : Stmt := topS 11
theorem sc_law_draw : FnScope ["_law_well_here", "_law_many", "_law_found", "_law_number_here"] ["_law_well_here", "_law_many"] (defScope s_law_draw) := ⟨rfl, rfl, rfl, by decide +kernel, rfl, by decide +kernel, by decide +kernel⟩
abbrev s_law_number : Stmt := topS 12
theorem sc_law_number : FnScope ["_law_well_here", "_law_near", "_law_lot", "_law_great", "_law_k", "_law_small"] ["_law_well_here", "_law_near"] (defScope s_law_number) := ⟨rfl, rfl, rfl, by decide +kernel, rfl, by decide +kernel, by decide +kernel⟩
abbrev s_law_rule : Stmt := topS 13
theorem sc_law_rule : FnScope ["_law_well_here", "_law_ahead", "_law_a", "_law_b", "_law_c", "_law_truths", "_law_made", "_law_k"] ["_law_well_here", "_law_ahead"] (defScope s_law_rule) := ⟨rfl, rfl, rfl, by decide +kernel, rfl, by decide +kernel, by decide +kernel⟩
abbrev s_law_wish : Stmt := topS 14
theorem sc_law_wish : FnScope ["_law_well_here", "_law_ahead", "_law_lot", "_law_a", "_law_b", "_law_c", "_law_truths", "_law_k"] ["_law_well_here", "_law_ahead"] (defScope s_law_wish) := ⟨rfl, rfl, rfl, by decide +kernel, rfl, by decide +kernel, by decide +kernel⟩
abbrev s_law_ages : Stmt := topS 15
theorem sc_law_ages : FnScope ["_law_rule_rows", "_law_wish_rows", "_law_ends", "_law_made", "_law_sums", "_law_wish_here", "_law_more", "_law_parts", "_law_found", "_law_end", "_law_age"] ["_law_rule_rows", "_law_wish_rows"] (defScope s_law_ages) := ⟨rfl, rfl, rfl, by decide +kernel, rfl, by decide +kernel, by decide +kernel⟩
abbrev s_law_falls : Stmt := topS 16
theorem sc_law_falls : FnScope ["_law_rule_here", "_law_wish_here", "_law_ages_here", "_law_late", "_law_found", "_law_age"] ["_law_rule_here", "_law_wish_here", "_law_ages_here"] (defScope s_law_falls) := ⟨rfl, rfl, rfl, by decide +kernel, rfl, by decide +kernel, by decide +kernel⟩
abbrev s_law_under : Stmt := topS 17
theorem sc_law_under : FnScope ["_law_rule_here", "_law_wish_here", "_law_rules", "_law_wishes", "_law_age", "_law_every", "_law_words", "_law_one", "_law_other", "_law_late", "_law_fresh"] ["_law_rule_here", "_law_wish_here", "_law_rules", "_law_wishes", "_law_age", "_law_every"] (defScope s_law_under) := ⟨rfl, rfl, rfl, by decide +kernel, rfl, by decide +kernel, by decide +kernel⟩
abbrev s_law : Stmt := topS 18
theorem sc_law : FnScope ["_law_script", "_law_rule_rows", "_law_wish_rows", "_law_cell", "_law_well_here", "_law_many", "_law_k", "_law_rules", "_law_wishes", "_law_rule_here", "_law_wish_here", "_law_one", "_law_turned", "_law_ages_here", "_law_age", "_law_row"] ["_law_script"] (defScope s_law) := ⟨rfl, rfl, rfl, by decide +kernel, rfl, by decide +kernel, by decide +kernel⟩
abbrev s_Rule_init : Stmt := inClass (topS 3) 0
theorem sc_Rule_init : FnScope ["self", "keep", "worn", "alone", "anew", "own", "common", "never", "strict"] ["self", "keep", "worn", "alone", "anew", "own", "common", "never", "strict"] (defScope s_Rule_init) := ⟨rfl, rfl, rfl, by decide +kernel, rfl, by decide +kernel, by decide +kernel⟩
abbrev s_Rule_both : Stmt := inClass (topS 3) 2
theorem sc_Rule_both : FnScope ["self", "other"] ["self", "other"] (defScope s_Rule_both) := ⟨rfl, rfl, rfl, by decide +kernel, rfl, by decide +kernel, by decide +kernel⟩
abbrev s_Wish_init : Stmt := inClass (topS 4) 0
theorem sc_Wish_init : FnScope ["self", "atmost", "left", "worn", "anew", "kept", "firm"] ["self", "atmost", "left", "worn", "anew", "kept", "firm"] (defScope s_Wish_init) := ⟨rfl, rfl, rfl, by decide +kernel, rfl, by decide +kernel, by decide +kernel⟩
abbrev s_Wish_both : Stmt := inClass (topS 4) 2
theorem sc_Wish_both : FnScope ["self", "other"] ["self", "other"] (defScope s_Wish_both) := ⟨rfl, rfl, rfl, by decide +kernel, rfl, by decide +kernel, by decide +kernel⟩
structure Def (K : PySem.W.Frag) (mg : Str → Option Value) (x : Str) (st : Stmt) (ps : List Str) (f : Addr) (fd : FuncData) : Prop where
  F : Fun K x x st f fd
  b : Binds K fd ps []
  g : mg x = some (.ref f)
structure DefM (K : PySem.W.Frag) (x qual : Str) (st : Stmt) (ps : List Str) (f : Addr) (fd : FuncData) : Prop where
  F : Fun K x qual st f fd
  b : Binds K fd ps []
structure DefK (K : PySem.W.Frag) (x qual : Str) (st : Stmt) (f : Addr) (fd : FuncData) : Prop where
  F : Fun K x qual st f fd
structure DefG (K : PySem.W.Frag) (mg : Str → Option Value) (x qual : Str) (st : Stmt) (f : Addr) (fd : FuncData) : Prop where
  F : Fun K x qual st f fd
  g : mg x = some (.ref f)
structure Txt (K : PySem.W.Frag) (mg : Str → Option Value) where
  f_lesser : Addr
  fd_lesser : FuncData
  d_lesser : Def K mg "lesser" s_lesser ["one", "other"] f_lesser fd_lesser
  f_lets : Addr
  fd_lets : FuncData
  d_lets : Def K mg "lets" s_lets ["rule", "wish", "age"] f_lets fd_lets
  f_serves : Addr
  fd_serves : FuncData
  d_serves : DefG K mg "serves" "serves" s_serves  f_serves fd_serves
  f_law_well : Addr
  fd_law_well : FuncData
  d_law_well : Def K mg "_law_well" s_law_well ["_law_cell"] f_law_well fd_law_well
  f_law_draw : Addr
  fd_law_draw : FuncData
  d_law_draw : Def K mg "_law_draw" s_law_draw ["_law_well_here", "_law_many"] f_law_draw fd_law_draw
  f_law_number : Addr
  fd_law_number : FuncData
  d_law_number : Def K mg "_law_number" s_law_number ["_law_well_here", "_law_near"] f_law_number fd_law_number
  f_law_rule : Addr
  fd_law_rule : FuncData
  d_law_rule : Def K mg "_law_rule" s_law_rule ["_law_well_here", "_law_ahead"] f_law_rule fd_law_rule
  f_law_wish : Addr
  fd_law_wish : FuncData
  d_law_wish : Def K mg "_law_wish" s_law_wish ["_law_well_here", "_law_ahead"] f_law_wish fd_law_wish
  f_law_ages : Addr
  fd_law_ages : FuncData
  d_law_ages : Def K mg "_law_ages" s_law_ages ["_law_rule_rows", "_law_wish_rows"] f_law_ages fd_law_ages
  f_law_falls : Addr
  fd_law_falls : FuncData
  d_law_falls : Def K mg "_law_falls" s_law_falls ["_law_rule_here", "_law_wish_here", "_law_ages_here"] f_law_falls fd_law_falls
  f_law_under : Addr
  fd_law_under : FuncData
  d_law_under : Def K mg "_law_under" s_law_under ["_law_rule_here", "_law_wish_here", "_law_rules", "_law_wishes", "_law_age", "_law_every"] f_law_under fd_law_under
  f_law : Addr
  fd_law : FuncData
  d_law : Def K mg "law" s_law ["_law_script"] f_law fd_law
  f_Rule_init : Addr
  fd_Rule_init : FuncData
  d_Rule_init : DefK K "__init__" "Rule.__init__" s_Rule_init  f_Rule_init fd_Rule_init
  f_Rule_both : Addr
  fd_Rule_both : FuncData
  d_Rule_both : DefM K "both" "Rule.both" s_Rule_both ["self", "other"] f_Rule_both fd_Rule_both
  f_Wish_init : Addr
  fd_Wish_init : FuncData
  d_Wish_init : DefK K "__init__" "Wish.__init__" s_Wish_init  f_Wish_init fd_Wish_init
  f_Wish_both : Addr
  fd_Wish_both : FuncData
  d_Wish_both : DefM K "both" "Wish.both" s_Wish_both ["self", "other"] f_Wish_both fd_Wish_both
  C_Rule : Addr
  g_Rule : mg "Rule" = some (.ref C_Rule)
  cl_Rule : Cls K C_Rule
  mk_Rule : Mk K C_Rule f_Rule_init
  n_Rule_keep : NoAttr K C_Rule "keep"
  n_Rule_worn : NoAttr K C_Rule "worn"
  n_Rule_alone : NoAttr K C_Rule "alone"
  n_Rule_anew : NoAttr K C_Rule "anew"
  n_Rule_own : NoAttr K C_Rule "own"
  n_Rule_common : NoAttr K C_Rule "common"
  n_Rule_never : NoAttr K C_Rule "never"
  n_Rule_strict : NoAttr K C_Rule "strict"
  me_Rule_both : Meth K C_Rule "both" f_Rule_both
  C_Wish : Addr
  g_Wish : mg "Wish" = some (.ref C_Wish)
  cl_Wish : Cls K C_Wish
  mk_Wish : Mk K C_Wish f_Wish_init
  n_Wish_atmost : NoAttr K C_Wish "atmost"
  n_Wish_left : NoAttr K C_Wish "left"
  n_Wish_worn : NoAttr K C_Wish "worn"
  n_Wish_anew : NoAttr K C_Wish "anew"
  n_Wish_kept : NoAttr K C_Wish "kept"
  n_Wish_firm : NoAttr K C_Wish "firm"
  me_Wish_both : Meth K C_Wish "both" f_Wish_both
  kb_0 : ∃ gg, KBn K fd_Rule_init ["self", "keep", "worn", "alone", "anew", "own", "common", "never", "strict"] 1 ["keep", "worn", "alone", "anew", "strict", "own", "never"] gg (fun vs zs => vs ++ pickKw [.inr 0, .inr 1, .inr 2, .inr 3, .inr 5, .inl 0, .inr 6, .inr 4] (([("common", .bl false)] : List (Str × V)).map (·.2)) zs)
  kb_1 : ∃ gg, KBn K fd_Wish_init ["self", "atmost", "left", "worn", "anew", "kept", "firm"] 1 ["left", "worn", "anew", "firm", "kept"] gg (fun vs zs => vs ++ pickKw [.inl 0, .inr 0, .inr 1, .inr 2, .inr 4, .inr 3] (([("atmost", .non)] : List (Str × V)).map (·.2)) zs)
  kb_2 : ∃ gg, KBn K fd_Wish_init ["self", "atmost", "left", "worn", "anew", "kept", "firm"] 1 ["atmost", "left", "worn", "anew", "firm"] gg (fun vs zs => vs ++ pickKw [.inr 0, .inr 1, .inr 2, .inr 3, .inl 0, .inr 4] (([("kept", .bl false)] : List (Str × V)).map (·.2)) zs)
  kb_3 : ∃ gg, KBn K fd_serves ["rule", "wish", "age", "alone"] 3 ["alone"] gg (fun vs zs => vs ++ pickKw [.inr 0] (([] : List (Str × V)).map (·.2)) zs)
  kb_4 : ∃ gg, KBn K fd_Rule_init ["self", "keep", "worn", "alone", "anew", "own", "common", "never", "strict"] 1 ["keep", "worn", "alone", "anew", "own", "common", "never", "strict"] gg (fun vs zs => vs ++ pickKw [.inr 0, .inr 1, .inr 2, .inr 3, .inr 4, .inr 5, .inr 6, .inr 7] (([] : List (Str × V)).map (·.2)) zs)
  kb_5 : ∃ gg, KBn K fd_Wish_init ["self", "atmost", "left", "worn", "anew", "kept", "firm"] 1 ["atmost", "left", "worn", "anew", "kept", "firm"] gg (fun vs zs => vs ++ pickKw [.inr 0, .inr 1, .inr 2, .inr 3, .inr 4, .inr 5] (([] : List (Str × V)).map (·.2)) zs)
  a_SERVED : Addr
  g_SERVED : mg "SERVED" = some (.ref a_SERVED)
  q_SERVED : ∀ H : Hp, SqT K H a_SERVED ([.str "fresh", .str "let", .str "worn"] : List V)
  m_int : mg "int" = none
  m_len : mg "len" = none
  m_max : mg "max" = none
  m_min : mg "min" = none
  m_range : mg "range" = none
  m_sorted : mg "sorted" = none
/-! ### rules and wishes: what they bear -/
structure RuleR where
  keep : Int
  worn : Int
  alone : Int
  anew : Bool
  own : Bool
  common : Bool
  never : Bool
  strict : Bool
structure WishR where
  atmost : Option Int
  left : Int
  worn : Int
  anew : Bool
  kept : Bool
  firm : Bool
def fR (r : RuleR) : List (Str × V) := putF "strict" (.bl r.strict) (putF "never" (.bl r.never) (putF "common" (.bl r.common) (putF "own" (.bl r.own) (putF "anew" (.bl r.anew) (putF "alone" (.int r.alone) (putF "worn" (.int r.worn) (putF "keep" (.int r.keep) [])))))))
def fW (r : WishR) : List (Str × V) := putF "firm" (.bl r.firm) (putF "kept" (.bl r.kept) (putF "anew" (.bl r.anew) (putF "worn" (.int r.worn) (putF "left" (.int r.left) (putF "atmost" (oV r.atmost) [])))))
theorem fR_keep (r : RuleR) : (fR r).lookup ("keep" : Str) = some (.int r.keep) := by unfold fR; (repeat (rw [lookup_putF, if_neg (by decide +kernel)])); rw [lookup_putF, if_pos rfl]
theorem fR_worn (r : RuleR) : (fR r).lookup ("worn" : Str) = some (.int r.worn) := by unfold fR; (repeat (rw [lookup_putF, if_neg (by decide +kernel)])); rw [lookup_putF, if_pos rfl]
theorem fR_alone (r : RuleR) : (fR r).lookup ("alone" : Str) = some (.int r.alone) := by unfold fR; (repeat (rw [lookup_putF, if_neg (by decide +kernel)])); rw [lookup_putF, if_pos rfl]
theorem fR_anew (r : RuleR) : (fR r).lookup ("anew" : Str) = some (.bl r.anew) := by unfold fR; (repeat (rw [lookup_putF, if_neg (by decide +kernel)])); rw [lookup_putF, if_pos rfl]
theorem fR_own (r : RuleR) : (fR r).lookup ("own" : Str) = some (.bl r.own) := by unfold fR; (repeat (rw [lookup_putF, if_neg (by decide +kernel)])); rw [lookup_putF, if_pos rfl]
theorem fR_common (r : RuleR) : (fR r).lookup ("common" : Str) = some (.bl r.common) := by unfold fR; (repeat (rw [lookup_putF, if_neg (by decide +kernel)])); rw [lookup_putF, if_pos rfl]
theorem fR_never (r : RuleR) : (fR r).lookup ("never" : Str) = some (.bl r.never) := by unfold fR; (repeat (rw [lookup_putF, if_neg (by decide +kernel)])); rw [lookup_putF, if_pos rfl]
theorem fR_strict (r : RuleR) : (fR r).lookup ("strict" : Str) = some (.bl r.strict) := by unfold fR; rw [lookup_putF, if_pos rfl]
theorem fW_atmost (r : WishR) : (fW r).lookup ("atmost" : Str) = some (oV r.atmost) := by unfold fW; (repeat (rw [lookup_putF, if_neg (by decide +kernel)])); rw [lookup_putF, if_pos rfl]
theorem fW_left (r : WishR) : (fW r).lookup ("left" : Str) = some (.int r.left) := by unfold fW; (repeat (rw [lookup_putF, if_neg (by decide +kernel)])); rw [lookup_putF, if_pos rfl]
theorem fW_worn (r : WishR) : (fW r).lookup ("worn" : Str) = some (.int r.worn) := by unfold fW; (repeat (rw [lookup_putF, if_neg (by decide +kernel)])); rw [lookup_putF, if_pos rfl]
theorem fW_anew (r : WishR) : (fW r).lookup ("anew" : Str) = some (.bl r.anew) := by unfold fW; (repeat (rw [lookup_putF, if_neg (by decide +kernel)])); rw [lookup_putF, if_pos rfl]
theorem fW_kept (r : WishR) : (fW r).lookup ("kept" : Str) = some (.bl r.kept) := by unfold fW; (repeat (rw [lookup_putF, if_neg (by decide +kernel)])); rw [lookup_putF, if_pos rfl]
theorem fW_firm (r : WishR) : (fW r).lookup ("firm" : Str) = some (.bl r.firm) := by unfold fW; rw [lookup_putF, if_pos rfl]
def RuleAt (C : Addr) (H : Hp) (p : Addr) (r : RuleR) : Prop := ∃ dx, H p = some (.ins C dx (fR r))
def WishAt (C : Addr) (H : Hp) (p : Addr) (r : WishR) : Prop := ∃ dx, H p = some (.ins C dx (fW r))
theorem RuleAt.mono {C : Addr} {H H' : Hp} {p : Addr} {r : RuleR} (s : Same H H') : RuleAt C H p r → RuleAt C H' p r := fun ⟨dx, h⟩ => ⟨dx, s _ _ h⟩
theorem WishAt.mono {C : Addr} {H H' : Hp} {p : Addr} {r : WishR} (s : Same H H') : WishAt C H p r → WishAt C H' p r := fun ⟨dx, h⟩ => ⟨dx, s _ _ h⟩
theorem ins_ne {H : Hp} {W p C dx : Addr} {fs : List (Str × V)} (hI : IsW H W) (h : H p = some (.ins C dx fs)) : p ≠ W := by
  obtain ⟨a, b, c, hw⟩ := hI
  rintro rfl
  rw [hw] at h
  cases h
theorem RuleAt.wx {C W : Addr} {H H' : Hp} {p : Addr} {r : RuleR} (hI : IsW H W) (x : Wx W H H') : RuleAt C H p r → RuleAt C H' p r := fun ⟨dx, h⟩ => ⟨dx, x.keep _ _ (ins_ne hI h) h⟩
theorem WishAt.wx {C W : Addr} {H H' : Hp} {p : Addr} {r : WishR} (hI : IsW H W) (x : Wx W H H') : WishAt C H p r → WishAt C H' p r := fun ⟨dx, h⟩ => ⟨dx, x.keep _ _ (ins_ne hI h) h⟩
def spRInit (C : Addr) : Sp := fun vs H Q _ => ∃ (p dx : Addr) (r : RuleR), vs = [.ref p, .int r.keep, .int r.worn, .int r.alone, .bl r.anew, .bl r.own, .bl r.common, .bl r.never, .bl r.strict] ∧ H p = some (.ins C dx []) ∧ Q .non (upd H p (.ins C dx (fR r)))
def spWInit (C : Addr) : Sp := fun vs H Q _ => ∃ (p dx : Addr) (r : WishR), vs = [.ref p, oV r.atmost, .int r.left, .int r.worn, .bl r.anew, .bl r.kept, .bl r.firm] ∧ H p = some (.ins C dx []) ∧ Q .non (upd H p (.ins C dx (fW r)))

section
variable {P : Program} {w : World} {K : PySem.W.Frag} {mg : Str → Option Value} {base : Heap}
theorem ok_law_well (T : Txt K mg) : FnOk P w K mg base CX0 1 T.f_law_well T.fd_law_well ["_law_cell"] spWell := by
  refine T.d_law_well.F.ok sc_law_well (fun vs H Q E h => ?_) (fun cdv A outer s H vs Q E hr h => ?_)
  · obtain ⟨n, rfl, _⟩ := h
    rfl
  · obtain ⟨n, rfl, q⟩ := h
    refine ⟨_, (pss_one (ps_ret (pe_lst (pa_cons (pe_op op_mul (pv 0) (pe_callTy call_int1 (by rfl) T.m_int (by decide +kernel) (pa_cons (pe_cmpR op_ge (pv 0) (pe_op op_pow pe_int pe_int) (nomark _)) pa_nil))) (pa_cons (pe_op op_mod (pv 0) pe_int) (pa_cons pe_int pa_nil)))))), ?_⟩
    refine ⟨.int n, rfl, .int n, rfl, 10, 18, rfl, rfl, ⟨by decide, by decide, by decide⟩, n, _, rfl, rfl, .inr ⟨_, rfl, n, _, rfl, rfl, ?_, .int n, rfl, n, _, rfl, rfl, (show (0 : Int) < 2147483647 by decide), ?_⟩⟩
    · refine .inr ?_
      split <;> decide
    · exact ⟨(by show 3 ≤ sizeLine; decide), fun p hp => q p _ _ _ hp⟩
theorem ok_law_draw (T : Txt K mg) : FnOk P w K mg base CX0 1 T.f_law_draw T.fd_law_draw ["_law_well_here", "_law_many"] spDraw := by
  refine T.d_law_draw.F.ok sc_law_draw (fun vs H Q E h => ?_) (fun cdv A outer s H vs Q E hr h => ?_)
  · obtain ⟨W, m, rfl, _⟩ := h
    rfl
  · obtain ⟨W, m, rfl, m0, m1, hI, q⟩ := h
    obtain ⟨a, b, c, hW⟩ := id hI
    have i0 : atI [V.int a, .int b, .int c] 0 = some (.int a) := rfl
    have i1 : atI [V.int a, .int b, .int c] 1 = some (.int b) := rfl
    have i2 : atI [V.int a, .int b, .int c] 2 = some (.int c) := rfl
    refine ⟨_, (pss_cons (ps_if (pt_cmpR op_gt (pe_ix ix_list (pv 0) pe_int (fun _ _ => rfl)) pe_int (nomark _))
      (pss_cons (ps_set (i := 2) sc_law_draw.nd rfl (.inl rfl) (pe_op op_mod (pe_ix ix_list (pv 0) pe_int (fun _ _ => rfl)) (pv 1)))
      (pss_cons (ps_asg (pe_op op_fdiv (pe_ix ix_list (pv 0) pe_int (fun _ _ => rfl)) (pv 1)) (pg_sub (pv 0) pe_int set_list))
      (pss_one (ps_ret (pv 2)))))
      pss_nil)
      (pss_cons (ps_asg (pe_op op_add (pe_ix ix_list (pv 0) pe_int (fun _ _ => rfl)) pe_int) (pg_sub (pv 0) pe_int set_list))
      (pss_cons (ps_set (i := 3) sc_law_draw.nd rfl (.inl rfl) (pe_op op_mod (pe_op op_mul (pe_op op_add (pe_op op_add (pe_ix ix_list (pv 0) pe_int (fun _ _ => rfl)) (pe_op op_mul pe_int (pe_ix ix_list (pv 0) pe_int (fun _ _ => rfl)))) pe_int) pe_int) pe_int))
      (pss_cons (ps_set (i := 3) sc_law_draw.nd rfl (.inl rfl) (pe_op op_mod (pe_op op_mul (pv 3) (pe_op op_add (pe_op op_fdiv (pv 3) pe_int) pe_int)) pe_int))
      (pss_one (ps_ret (pe_op op_mod (pe_op op_mod (pe_op op_mul (pv 3) (pe_op op_add (pe_op op_fdiv (pv 3) pe_int) pe_int)) pe_int) (pv 1)))))))), ?_⟩
    refine ⟨.ref W, rfl, W, _, 0, _, rfl, rfl, SqL.of hW, i0, a, 0, rfl, rfl, _, rfl, ite2 (fun e => ?_) (fun e => ?_)⟩
    · refine ⟨.ref W, rfl, W, _, 0, _, rfl, rfl, SqL.of hW, i0, .int m, rfl, a, m, rfl, rfl, m0, ?_⟩
      refine ⟨.ref W, rfl, W, _, 0, _, rfl, rfl, SqL.of hW, i0, .int m, rfl, a, m, rfl, rfl, ⟨m0, m1⟩, .ref W, rfl, W, _, 0, 0, rfl, rfl, hW, rfl, ?_⟩
      exact ⟨_, rfl, q _ _ (mod_lt m0).1 (mod_lt m0).2 ((Wx.refl hI).set _ _ _)⟩
    · refine ⟨.ref W, rfl, W, _, 2, _, rfl, rfl, SqL.of hW, i2, c, 1, rfl, rfl, .ref W, rfl, W, _, 2, 2, rfl, rfl, hW, rfl, ?_⟩
      have hW' : (upd H W (W3 a b (c + 1))) W = some (W3 a b (c + 1)) := upd_same
      have j1 : atI [V.int a, .int b, .int (c + 1)] 1 = some (.int b) := rfl
      have j2 : atI [V.int a, .int b, .int (c + 1)] 2 = some (.int (c + 1)) := rfl
      refine ⟨.ref W, rfl, W, _, 1, _, rfl, rfl, SqL.of hW', j1, .ref W, rfl, W, _, 2, _, rfl, rfl, SqL.of hW', j2, 7919, _, rfl, rfl, .inl (by decide), b, _, rfl, rfl, _, 1, rfl, rfl, _, 48271, rfl, rfl, .inr (by decide), _, 2147483647, rfl, rfl, (show (0 : Int) < 2147483647 by decide), ?_⟩
      refine ⟨_, rfl, _, rfl, _, 1009, rfl, rfl, ⟨by decide, by decide⟩, _, 69621, rfl, rfl, _, _, rfl, rfl, cmul_of (mod_lt (by decide)), _, 2147483647, rfl, rfl, (show (0 : Int) < 2147483647 by decide), ?_⟩
      refine ⟨_, rfl, _, rfl, _, 2003, rfl, rfl, ⟨by decide, by decide⟩, _, 40692, rfl, rfl, _, _, rfl, rfl, cmul_of (mod_lt (by decide)), _, 2147483399, rfl, rfl, (show (0 : Int) < 2147483399 by decide), .int m, rfl, _, m, rfl, rfl, m0, ?_⟩
      exact q _ _ (mod_lt m0).1 (mod_lt m0).2 ((Wx.refl hI).set _ _ _)

theorem ok_Rule_init (T : Txt K mg) : FnOk P w K mg base CX0 1 T.f_Rule_init T.fd_Rule_init ["self", "keep", "worn", "alone", "anew", "own", "common", "never", "strict"] (spRInit T.C_Rule) := by
  refine T.d_Rule_init.F.ok sc_Rule_init (fun vs H Q E h => ?_) (fun cdv A outer s H vs Q E hr h => ?_)
  · obtain ⟨p, dx, r, rfl, _⟩ := h
    rfl
  · obtain ⟨p, dx, r, rfl, hp, k⟩ := h
    refine ⟨_, (pss_cons (ps_fld (pv 0) (pv 1) rfl)
      (pss_cons (ps_fld (pv 0) (pv 2) rfl)
      (pss_cons (ps_fld (pv 0) (pv 3) rfl)
      (pss_cons (ps_fld (pv 0) (pv 4) rfl)
      (pss_cons (ps_fld (pv 0) (pv 5) rfl)
      (pss_cons (ps_fld (pv 0) (pv 6) rfl)
      (pss_cons (ps_fld (pv 0) (pv 7) rfl)
      (pss_one (ps_fld (pv 0) (pv 8) rfl))))))))), ?_⟩
    refine ⟨_, rfl, _, rfl, p, _, dx, [], rfl, hp, T.cl_Rule, T.n_Rule_keep, fewL few0 (by decide), ?_⟩
    refine ⟨_, rfl, _, rfl, p, _, dx, _, rfl, upd_same, T.cl_Rule, T.n_Rule_worn, fewL (few few0) (by decide), ?_⟩
    refine ⟨_, rfl, _, rfl, p, _, dx, _, rfl, upd_same, T.cl_Rule, T.n_Rule_alone, fewL (few (few few0)) (by decide), ?_⟩
    refine ⟨_, rfl, _, rfl, p, _, dx, _, rfl, upd_same, T.cl_Rule, T.n_Rule_anew, fewL (few (few (few few0))) (by decide), ?_⟩
    refine ⟨_, rfl, _, rfl, p, _, dx, _, rfl, upd_same, T.cl_Rule, T.n_Rule_own, fewL (few (few (few (few few0)))) (by decide), ?_⟩
    refine ⟨_, rfl, _, rfl, p, _, dx, _, rfl, upd_same, T.cl_Rule, T.n_Rule_common, fewL (few (few (few (few (few few0))))) (by decide), ?_⟩
    refine ⟨_, rfl, _, rfl, p, _, dx, _, rfl, upd_same, T.cl_Rule, T.n_Rule_never, fewL (few (few (few (few (few (few few0)))))) (by decide), ?_⟩
    refine ⟨_, rfl, _, rfl, p, _, dx, _, rfl, upd_same, T.cl_Rule, T.n_Rule_strict, fewL (few (few (few (few (few (few (few few0))))))) (by decide), ?_⟩
    simp only [upd_upd]
    exact k
theorem ok_Wish_init (T : Txt K mg) : FnOk P w K mg base CX0 1 T.f_Wish_init T.fd_Wish_init ["self", "atmost", "left", "worn", "anew", "kept", "firm"] (spWInit T.C_Wish) := by
  refine T.d_Wish_init.F.ok sc_Wish_init (fun vs H Q E h => ?_) (fun cdv A outer s H vs Q E hr h => ?_)
  · obtain ⟨p, dx, r, rfl, _⟩ := h
    rfl
  · obtain ⟨p, dx, r, rfl, hp, k⟩ := h
    refine ⟨_, (pss_cons (ps_fld (pv 0) (pv 1) rfl)
      (pss_cons (ps_fld (pv 0) (pv 2) rfl)
      (pss_cons (ps_fld (pv 0) (pv 3) rfl)
      (pss_cons (ps_fld (pv 0) (pv 4) rfl)
      (pss_cons (ps_fld (pv 0) (pv 5) rfl)
      (pss_one (ps_fld (pv 0) (pv 6) rfl))))))), ?_⟩
    refine ⟨_, rfl, _, rfl, p, _, dx, [], rfl, hp, T.cl_Wish, T.n_Wish_atmost, fewL few0 (by decide), ?_⟩
    refine ⟨_, rfl, _, rfl, p, _, dx, _, rfl, upd_same, T.cl_Wish, T.n_Wish_left, fewL (few few0) (by decide), ?_⟩
    refine ⟨_, rfl, _, rfl, p, _, dx, _, rfl, upd_same, T.cl_Wish, T.n_Wish_worn, fewL (few (few few0)) (by decide), ?_⟩
    refine ⟨_, rfl, _, rfl, p, _, dx, _, rfl, upd_same, T.cl_Wish, T.n_Wish_anew, fewL (few (few (few few0))) (by decide), ?_⟩
    refine ⟨_, rfl, _, rfl, p, _, dx, _, rfl, upd_same, T.cl_Wish, T.n_Wish_kept, fewL (few (few (few (few few0)))) (by decide), ?_⟩
    refine ⟨_, rfl, _, rfl, p, _, dx, _, rfl, upd_same, T.cl_Wish, T.n_Wish_firm, fewL (few (few (few (few (few few0))))) (by decide), ?_⟩
    simp only [upd_upd]
    exact k

def overM (w : WishR) (age : Int) : Bool := match w.atmost with
  | none => false
  | some m => decide (age > m)
def let7 (r : RuleR) (w : WishR) (age : Int) : Str := if decide (age < r.keep + r.worn) = true then "worn" else "over"
def let6 (r : RuleR) (w : WishR) (age : Int) : Str := if decide (age < r.keep + w.worn) = true then "let" else let7 r w age
def let5 (r : RuleR) (w : WishR) (age : Int) : Str := if (r.strict || w.firm) = true then "firm" else let6 r w age
def let4 (r : RuleR) (w : WishR) (age : Int) : Str := if decide (w.left > 0) = true then "left" else let5 r w age
def let3 (r : RuleR) (w : WishR) (age : Int) : Str := if decide (age + w.left < r.keep) = true then "fresh" else let4 r w age
def let2 (r : RuleR) (w : WishR) (age : Int) : Str := if overM w age = true then "old" else let3 r w age
def letW (r : RuleR) (w : WishR) (age : Int) : Str := if (r.anew || w.anew) = true then "anew" else let2 r w age
def spLets (C D : Addr) : Sp := fun vs H Q _ => ∃ (p q : Addr) (r : RuleR) (w : WishR) (age : Int), vs = [.ref p, .ref q, .int age] ∧ RuleAt C H p r ∧ WishAt D H q w ∧ Q (.str (letW r w age)) H
theorem ok_lets (T : Txt K mg) : FnOk P w K mg base CX0 1 T.f_lets T.fd_lets ["rule", "wish", "age"] (spLets T.C_Rule T.C_Wish) := by
  refine T.d_lets.F.ok sc_lets (fun vs H Q E h => ?_) (fun cdv A outer s H vs Q E hr h => ?_)
  · obtain ⟨p, q, r, w, age, rfl, _⟩ := h
    rfl
  · obtain ⟨p, q, r, w, age, rfl, ⟨dx, hp⟩, ⟨dy, hq⟩, k⟩ := h
    refine ⟨_, (pss_cons (ps_if (pt_pure (PW.pt (pw_or (pt_val (pe_fld (pv 0) rfl)) (pw_or1 (pt_val (pe_fld (pv 1) rfl))))))
      (pss_one (ps_ret pe_str))
      pss_nil)
      (pss_cons (ps_if (pt_pure (PW.pt (pw_and (pt_cmpR op_notN (pe_fld (pv 1) rfl) pe_non (nomark _)) (pw_and1 (pt_cmpR op_gt (pv 2) (pe_fld (pv 1) rfl) (nomark _))))))
      (pss_one (ps_ret pe_str))
      pss_nil)
      (pss_cons (ps_if (pt_cmpR op_lt (pe_op op_add (pv 2) (pe_fld (pv 1) rfl)) (pe_fld (pv 0) rfl) (nomark _))
      (pss_one (ps_ret pe_str))
      pss_nil)
      (pss_cons (ps_if (pt_cmpR op_gt (pe_fld (pv 1) rfl) pe_int (nomark _))
      (pss_one (ps_ret pe_str))
      pss_nil)
      (pss_cons (ps_if (pt_pure (PW.pt (pw_or (pt_val (pe_fld (pv 0) rfl)) (pw_or1 (pt_val (pe_fld (pv 1) rfl))))))
      (pss_one (ps_ret pe_str))
      pss_nil)
      (pss_cons (ps_if (pt_cmpR op_lt (pv 2) (pe_op op_add (pe_fld (pv 0) rfl) (pe_fld (pv 1) rfl)) (nomark _))
      (pss_one (ps_ret pe_str))
      pss_nil)
      (pss_cons (ps_if (pt_cmpR op_lt (pv 2) (pe_op op_add (pe_fld (pv 0) rfl) (pe_fld (pv 0) rfl)) (nomark _))
      (pss_one (ps_ret pe_str))
      pss_nil)
      (pss_one (ps_ret pe_str))))))))), ?_⟩
    unfold letW at k
    refine ⟨(r.anew || w.anew), ?_, ite2 (fun e => ?_) (fun e => ?_)⟩
    · refine ⟨_, rfl, p, _, dx, _, _, rfl, hp, T.cl_Rule, T.n_Rule_anew, fR_anew r, _, rfl, ite2 (fun e => ?_) (fun e => ?_)⟩
      · rw [e]
        exact ⟨rfl, rfl⟩
      · exact ⟨_, rfl, q, _, dy, _, _, rfl, hq, T.cl_Wish, T.n_Wish_anew, fW_anew w, _, rfl, by rw [show r.anew = false by simpa using e]; rfl, rfl⟩
    · rw [if_pos e] at k
      exact k
    rw [if_neg e] at k
    unfold let2 at k
    refine ⟨overM w age, ?_, ite2 (fun e => ?_) (fun e => ?_)⟩
    · unfold overM
      refine ⟨_, rfl, q, _, dy, _, _, rfl, hq, T.cl_Wish, T.n_Wish_atmost, fW_atmost w, rfl, ?_⟩
      cases hm : w.atmost with
      | none => exact ⟨false, rfl, rfl, rfl⟩
      | some m => exact ⟨true, rfl, _, rfl, _, rfl, q, _, dy, _, _, rfl, hq, T.cl_Wish, T.n_Wish_atmost, by rw [fW_atmost w, hm]; rfl, _, m, rfl, rfl, _, rfl, rfl, rfl⟩
    · rw [if_pos e] at k
      exact k
    rw [if_neg e] at k
    unfold let3 at k
    refine ⟨_, rfl, _, rfl, q, _, dy, _, _, rfl, hq, T.cl_Wish, T.n_Wish_left, fW_left w, age, w.left, rfl, rfl, _, rfl, p, _, dx, _, _, rfl, hp, T.cl_Rule, T.n_Rule_keep, fR_keep r, _, _, rfl, rfl, _, rfl, ite2 (fun e => ?_) (fun e => ?_)⟩
    · rw [if_pos e] at k
      exact k
    rw [if_neg e] at k
    unfold let4 at k
    refine ⟨_, rfl, q, _, dy, _, _, rfl, hq, T.cl_Wish, T.n_Wish_left, fW_left w, _, _, rfl, rfl, _, rfl, ite2 (fun e => ?_) (fun e => ?_)⟩
    · rw [if_pos e] at k
      exact k
    rw [if_neg e] at k
    unfold let5 at k
    refine ⟨(r.strict || w.firm), ?_, ite2 (fun e => ?_) (fun e => ?_)⟩
    · refine ⟨_, rfl, p, _, dx, _, _, rfl, hp, T.cl_Rule, T.n_Rule_strict, fR_strict r, _, rfl, ite2 (fun e => ?_) (fun e => ?_)⟩
      · rw [e]
        exact ⟨rfl, rfl⟩
      · exact ⟨_, rfl, q, _, dy, _, _, rfl, hq, T.cl_Wish, T.n_Wish_firm, fW_firm w, _, rfl, by rw [show r.strict = false by simpa using e]; rfl, rfl⟩
    · rw [if_pos e] at k
      exact k
    rw [if_neg e] at k
    unfold let6 at k
    refine ⟨_, rfl, _, rfl, p, _, dx, _, _, rfl, hp, T.cl_Rule, T.n_Rule_keep, fR_keep r, _, rfl, q, _, dy, _, _, rfl, hq, T.cl_Wish, T.n_Wish_worn, fW_worn w, _, _, rfl, rfl, _, _, rfl, rfl, _, rfl, ite2 (fun e => ?_) (fun e => ?_)⟩
    · rw [if_pos e] at k
      exact k
    rw [if_neg e] at k
    unfold let7 at k
    refine ⟨_, rfl, _, rfl, p, _, dx, _, _, rfl, hp, T.cl_Rule, T.n_Rule_keep, fR_keep r, _, rfl, p, _, dx, _, _, rfl, hp, T.cl_Rule, T.n_Rule_worn, fR_worn r, _, _, rfl, rfl, _, _, rfl, rfl, _, rfl, ite2 (fun e => ?_) (fun e => ?_)⟩
    · rw [if_pos e] at k
      exact k
    · rw [if_neg e] at k
      exact k

def servB (r : RuleR) (w : WishR) (age : Int) (al : Bool) : Bool := decide (letW r w age ∈ (["fresh", "let", "worn"] : List Str)) || (al && (decide (letW r w age = "over") && decide (age < r.keep + r.alone)))
def spServes (C D : Addr) : Sp := fun vs H Q _ => ∃ (p q : Addr) (r : RuleR) (w : WishR) (age : Int) (al : Bool), vs = [.ref p, .ref q, .int age, .bl al] ∧ RuleAt C H p r ∧ WishAt D H q w ∧ Q (.bl (servB r w age al)) H
theorem ok_serves (T : Txt K mg) : FnOk P w K mg base CX0 2 T.f_serves T.fd_serves ["rule", "wish", "age", "alone"] (spServes T.C_Rule T.C_Wish) := by
  refine T.d_serves.F.ok sc_serves (fun vs H Q E h => ?_) (fun cdv A outer s H vs Q E hr h => ?_)
  · obtain ⟨p, q, r, w, age, al, rfl, _⟩ := h
    rfl
  · obtain ⟨p, q, r, w, age, al, rfl, hR, hW, k⟩ := h
    refine ⟨_, (pss_cons (ps_set (i := 4) sc_serves.nd rfl (.inl rfl) (pe_call (ok_lets T) (hr.mono (by decide)) (by rfl) T.d_lets.g T.d_lets.F.kp T.d_lets.b .nil pass0 (pa_cons (pv 0) (pa_cons (pv 1) (pa_cons (pv 2) pa_nil)))))
      (pss_cons (ps_if (pt_cmpR op_in_seq (pv 4) (pe_glob (v := .ref T.a_SERVED) (by rfl) T.g_SERVED rfl) rfl)
      (pss_one (ps_ret pe_bl))
      pss_nil)
      (pss_one (ps_ret (pe_pure (pe_and (pv 3) (pe_and (pe_cmpR op_eq (pv 4) pe_str (nomark _)) (pe_one (pe_cmpR op_lt (pv 2) (pe_op op_add (pe_fld (pv 0) rfl) (pe_fld (pv 0) rfl)) (nomark _)))))))))), ?_⟩
    unfold servB at k
    refine ⟨_, rfl, _, rfl, _, rfl, p, q, r, w, age, rfl, hR, hW, ?_⟩
    refine ⟨_, rfl, T.a_SERVED, _, rfl, .inr (T.q_SERVED H), rfl, flat_strs ["fresh", "let", "worn"], decide (letW r w age ∈ (["fresh", "let", "worn"] : List Str)), ?_, ite2 (fun e => ?_) (fun e => ?_)⟩
    · show V.bl (if false = true then _ else inV _ ((["fresh", "let", "worn"] : List Str).map V.str)) = _
      rw [if_neg Bool.false_ne_true, inV_strs]
    · rw [e, Bool.true_or] at k
      exact k
    rw [show decide (letW r w age ∈ (["fresh", "let", "worn"] : List Str)) = false by simpa using e, Bool.false_or] at k
    obtain ⟨dx, hp⟩ := hR
    refine ⟨.bl (al && (decide (letW r w age = "over") && decide (age < r.keep + r.alone))), ?_, k⟩
    refine ⟨_, rfl, al, rfl, ite2 (fun e1 => ?_) (fun e1 => ?_)⟩
    · rw [e1, Bool.true_and]
      have ee : decide (V.str (letW r w age) = V.str "over") = decide (letW r w age = "over") := by
        by_cases h : letW r w age = "over"
        · rw [decide_eq_true h, decide_eq_true (congrArg V.str h)]
        · rw [decide_eq_false h, decide_eq_false fun x => h (V.str.inj x)]
      refine ⟨_, rfl, rfl, _, rfl, ite2 (fun e2 => ?_) (fun e2 => ?_)⟩
      · rw [ee] at e2
        rw [e2, Bool.true_and]
        exact ⟨_, rfl, _, rfl, p, _, dx, _, _, rfl, hp, T.cl_Rule, T.n_Rule_keep, fR_keep r, _, rfl, p, _, dx, _, _, rfl, hp, T.cl_Rule, T.n_Rule_alone, fR_alone r, _, _, rfl, rfl, _, _, rfl, rfl, rfl, rfl⟩
      · rw [ee] at e2
        rw [show decide (letW r w age = "over") = false by simpa using e2]
        exact ⟨rfl, rfl⟩
    · rw [show al = false by simpa using e1]
      exact ⟨rfl, rfl⟩

end
end My
namespace My
open PySem PySem.Spec PyProof.Rows L2 TL
section
variable {P : Program} {w : World} {K : PySem.W.Frag} {mg : Str → Option Value} {base : Heap}
def mxI (i j : Int) : Int := if j > i then j else i
def mnI (i j : Int) : Int := if j < i then j else i
def lesO : Option Int → Option Int → Option Int
  | none, b => b
  | some a, none => some a
  | some a, some b => some (mnI a b)
def bothR (r s : RuleR) : RuleR := ⟨mnI r.keep s.keep, mnI r.worn s.worn, mnI r.alone s.alone, r.anew || s.anew, r.own || s.own, r.common && s.common, r.never || s.never, r.strict || s.strict⟩
def bothW (r s : WishR) : WishR := ⟨lesO r.atmost s.atmost, mxI r.left s.left, mnI r.worn s.worn, r.anew || s.anew, r.kept || s.kept, r.firm || s.firm⟩
def spLesser : Sp := fun vs H Q _ => ∃ a b : Option Int, vs = [oV a, oV b] ∧ Q (oV (lesO a b)) H
theorem ok_lesser (T : Txt K mg) : FnOk P w K mg base CX0 1 T.f_lesser T.fd_lesser ["one", "other"] spLesser := by
  refine T.d_lesser.F.ok sc_lesser (fun vs H Q E h => ?_) (fun cdv A outer s H vs Q E hr h => ?_)
  · obtain ⟨a, b, rfl, _⟩ := h
    rfl
  · obtain ⟨a, b, rfl, q⟩ := h
    refine ⟨_, (pss_cons (ps_if (pt_cmpR op_isN (pv 0) pe_non (nomark _))
      (pss_one (ps_ret (pv 1)))
      pss_nil)
      (pss_cons (ps_if (pt_cmpR op_isN (pv 1) pe_non (nomark _))
      (pss_one (ps_ret (pv 0)))
      pss_nil)
      (pss_one (ps_ret (pe_callB (call_min2 rfl) (by rfl) T.m_min (by decide +kernel) (pa_cons (pv 0) (pa_cons (pv 1) pa_nil))))))), ?_⟩
    cases a with
    | none => exact ⟨_, rfl, rfl, true, rfl, _, rfl, q⟩
    | some a =>
      cases b with
      | none => exact ⟨_, rfl, rfl, false, rfl, _, rfl, rfl, true, rfl, _, rfl, q⟩
      | some b => exact ⟨_, rfl, rfl, false, rfl, _, rfl, rfl, false, rfl, _, rfl, _, rfl, _, _, rfl, q⟩
def spBothR (C : Addr) : Sp := fun vs H Q _ => ∃ (p q : Addr) (r s : RuleR), vs = [.ref p, .ref q] ∧ RuleAt C H p r ∧ RuleAt C H q s ∧ ∀ x H', H x = none → Same H H' → RuleAt C H' x (bothR r s) → Q (.ref x) H'
theorem ok_Rule_both (T : Txt K mg) : FnOk P w K mg base CX0 3 T.f_Rule_both T.fd_Rule_both ["self", "other"] (spBothR T.C_Rule) := by
  refine T.d_Rule_both.F.ok sc_Rule_both (fun vs H Q E h => ?_) (fun cdv A outer s H vs Q E hr h => ?_)
  · obtain ⟨p, q, r, s, rfl, _⟩ := h
    rfl
  · obtain ⟨p, q, r, s, rfl, ⟨dx, hp⟩, ⟨dy, hq⟩, k⟩ := h
    refine ⟨_, (pss_one (ps_ret (pe_makeK0 T.mk_Rule (ok_Rule_init T) (hr.mono (by decide)) (by rfl) T.g_Rule T.kb_4.choose_spec pass0 (pk_cons (pe_callB (call_min2 rfl) (by rfl) T.m_min (by decide +kernel) (pa_cons (pe_fld (pv 0) rfl) (pa_cons (pe_fld (pv 1) rfl) pa_nil))) (pk_cons (pe_callB (call_min2 rfl) (by rfl) T.m_min (by decide +kernel) (pa_cons (pe_fld (pv 0) rfl) (pa_cons (pe_fld (pv 1) rfl) pa_nil))) (pk_cons (pe_callB (call_min2 rfl) (by rfl) T.m_min (by decide +kernel) (pa_cons (pe_fld (pv 0) rfl) (pa_cons (pe_fld (pv 1) rfl) pa_nil))) (pk_cons (pe_pure (pe_or (pe_fld (pv 0) rfl) (pe_one (pe_fld (pv 1) rfl)))) (pk_cons (pe_pure (pe_or (pe_fld (pv 0) rfl) (pe_one (pe_fld (pv 1) rfl)))) (pk_cons (pe_pure (pe_and (pe_fld (pv 0) rfl) (pe_one (pe_fld (pv 1) rfl)))) (pk_cons (pe_pure (pe_or (pe_fld (pv 0) rfl) (pe_one (pe_fld (pv 1) rfl)))) (pk_cons (pe_pure (pe_or (pe_fld (pv 0) rfl) (pe_one (pe_fld (pv 1) rfl)))) pk_nil))))))))))), ?_⟩
    refine ⟨_, rfl, p, _, dx, _, _, rfl, hp, T.cl_Rule, T.n_Rule_keep, fR_keep r, _, rfl, q, _, dy, _, _, rfl, hq, T.cl_Rule, T.n_Rule_keep, fR_keep s, _, _, rfl, _, rfl, p, _, dx, _, _, rfl, hp, T.cl_Rule, T.n_Rule_worn, fR_worn r, _, rfl, q, _, dy, _, _, rfl, hq, T.cl_Rule, T.n_Rule_worn, fR_worn s, _, _, rfl, _, rfl, p, _, dx, _, _, rfl, hp, T.cl_Rule, T.n_Rule_alone, fR_alone r, _, rfl, q, _, dy, _, _, rfl, hq, T.cl_Rule, T.n_Rule_alone, fR_alone s, _, _, rfl, .bl (r.anew || s.anew), ⟨_, rfl, p, _, dx, _, _, rfl, hp, T.cl_Rule, T.n_Rule_anew, fR_anew r, _, rfl, ite2 (fun e => by rw [e]; exact ⟨rfl, rfl⟩) (fun e => ⟨_, rfl, q, _, dy, _, _, rfl, hq, T.cl_Rule, T.n_Rule_anew, fR_anew s, by rw [show r.anew = false by simpa using e]; rfl, rfl⟩)⟩, .bl (r.own || s.own), ⟨_, rfl, p, _, dx, _, _, rfl, hp, T.cl_Rule, T.n_Rule_own, fR_own r, _, rfl, ite2 (fun e => by rw [e]; exact ⟨rfl, rfl⟩) (fun e => ⟨_, rfl, q, _, dy, _, _, rfl, hq, T.cl_Rule, T.n_Rule_own, fR_own s, by rw [show r.own = false by simpa using e]; rfl, rfl⟩)⟩, .bl (r.common && s.common), ⟨_, rfl, p, _, dx, _, _, rfl, hp, T.cl_Rule, T.n_Rule_common, fR_common r, _, rfl, ite2 (fun e => ⟨_, rfl, q, _, dy, _, _, rfl, hq, T.cl_Rule, T.n_Rule_common, fR_common s, by rw [e]; rfl, rfl⟩) (fun e => by rw [show r.common = false by simpa using e]; exact ⟨rfl, rfl⟩)⟩, .bl (r.never || s.never), ⟨_, rfl, p, _, dx, _, _, rfl, hp, T.cl_Rule, T.n_Rule_never, fR_never r, _, rfl, ite2 (fun e => by rw [e]; exact ⟨rfl, rfl⟩) (fun e => ⟨_, rfl, q, _, dy, _, _, rfl, hq, T.cl_Rule, T.n_Rule_never, fR_never s, by rw [show r.never = false by simpa using e]; rfl, rfl⟩)⟩, .bl (r.strict || s.strict), ⟨_, rfl, p, _, dx, _, _, rfl, hp, T.cl_Rule, T.n_Rule_strict, fR_strict r, _, rfl, ite2 (fun e => by rw [e]; exact ⟨rfl, rfl⟩) (fun e => ⟨_, rfl, q, _, dy, _, _, rfl, hq, T.cl_Rule, T.n_Rule_strict, fR_strict s, by rw [show r.strict = false by simpa using e]; rfl, rfl⟩)⟩, rfl, rfl, fun x d nx nd ndx => ⟨x, d, bothR r s, rfl, upd_same, rfl, ?_⟩⟩
    rw [upd_upd]
    exact k x _ nx ((same_upd nd).trans (same_upd (by rw [upd_ne ndx.symm]; exact nx))) ⟨d, upd_same⟩
def spBothW (C : Addr) : Sp := fun vs H Q _ => ∃ (p q : Addr) (r s : WishR), vs = [.ref p, .ref q] ∧ WishAt C H p r ∧ WishAt C H q s ∧ ∀ x H', H x = none → Same H H' → WishAt C H' x (bothW r s) → Q (.ref x) H'
theorem ok_Wish_both (T : Txt K mg) : FnOk P w K mg base CX0 3 T.f_Wish_both T.fd_Wish_both ["self", "other"] (spBothW T.C_Wish) := by
  refine T.d_Wish_both.F.ok sc_Wish_both (fun vs H Q E h => ?_) (fun cdv A outer s H vs Q E hr h => ?_)
  · obtain ⟨p, q, r, s, rfl, _⟩ := h
    rfl
  · obtain ⟨p, q, r, s, rfl, ⟨dx, hp⟩, ⟨dy, hq⟩, k⟩ := h
    refine ⟨_, (pss_one (ps_ret (pe_makeK0 T.mk_Wish (ok_Wish_init T) (hr.mono (by decide)) (by rfl) T.g_Wish T.kb_5.choose_spec pass0 (pk_cons (pe_call (ok_lesser T) (hr.mono (by decide)) (by rfl) T.d_lesser.g T.d_lesser.F.kp T.d_lesser.b .nil pass0 (pa_cons (pe_fld (pv 0) rfl) (pa_cons (pe_fld (pv 1) rfl) pa_nil))) (pk_cons (pe_callB (call_max2 rfl) (by rfl) T.m_max (by decide +kernel) (pa_cons (pe_fld (pv 0) rfl) (pa_cons (pe_fld (pv 1) rfl) pa_nil))) (pk_cons (pe_callB (call_min2 rfl) (by rfl) T.m_min (by decide +kernel) (pa_cons (pe_fld (pv 0) rfl) (pa_cons (pe_fld (pv 1) rfl) pa_nil))) (pk_cons (pe_pure (pe_or (pe_fld (pv 0) rfl) (pe_one (pe_fld (pv 1) rfl)))) (pk_cons (pe_pure (pe_or (pe_fld (pv 0) rfl) (pe_one (pe_fld (pv 1) rfl)))) (pk_cons (pe_pure (pe_or (pe_fld (pv 0) rfl) (pe_one (pe_fld (pv 1) rfl)))) pk_nil))))))))), ?_⟩
    refine ⟨_, rfl, p, _, dx, _, _, rfl, hp, T.cl_Wish, T.n_Wish_atmost, fW_atmost r, _, rfl, q, _, dy, _, _, rfl, hq, T.cl_Wish, T.n_Wish_atmost, fW_atmost s, r.atmost, s.atmost, rfl, _, rfl, p, _, dx, _, _, rfl, hp, T.cl_Wish, T.n_Wish_left, fW_left r, _, rfl, q, _, dy, _, _, rfl, hq, T.cl_Wish, T.n_Wish_left, fW_left s, _, _, rfl, _, rfl, p, _, dx, _, _, rfl, hp, T.cl_Wish, T.n_Wish_worn, fW_worn r, _, rfl, q, _, dy, _, _, rfl, hq, T.cl_Wish, T.n_Wish_worn, fW_worn s, _, _, rfl, .bl (r.anew || s.anew), ⟨_, rfl, p, _, dx, _, _, rfl, hp, T.cl_Wish, T.n_Wish_anew, fW_anew r, _, rfl, ite2 (fun e => by rw [e]; exact ⟨rfl, rfl⟩) (fun e => ⟨_, rfl, q, _, dy, _, _, rfl, hq, T.cl_Wish, T.n_Wish_anew, fW_anew s, by rw [show r.anew = false by simpa using e]; rfl, rfl⟩)⟩, .bl (r.kept || s.kept), ⟨_, rfl, p, _, dx, _, _, rfl, hp, T.cl_Wish, T.n_Wish_kept, fW_kept r, _, rfl, ite2 (fun e => by rw [e]; exact ⟨rfl, rfl⟩) (fun e => ⟨_, rfl, q, _, dy, _, _, rfl, hq, T.cl_Wish, T.n_Wish_kept, fW_kept s, by rw [show r.kept = false by simpa using e]; rfl, rfl⟩)⟩, .bl (r.firm || s.firm), ⟨_, rfl, p, _, dx, _, _, rfl, hp, T.cl_Wish, T.n_Wish_firm, fW_firm r, _, rfl, ite2 (fun e => by rw [e]; exact ⟨rfl, rfl⟩) (fun e => ⟨_, rfl, q, _, dy, _, _, rfl, hq, T.cl_Wish, T.n_Wish_firm, fW_firm s, by rw [show r.firm = false by simpa using e]; rfl, rfl⟩)⟩, rfl, rfl, fun x d nx nd ndx => ⟨x, d, bothW r s, rfl, upd_same, rfl, ?_⟩⟩
    rw [upd_upd]
    exact k x _ nx ((same_upd nd).trans (same_upd (by rw [upd_ne ndx.symm]; exact nx))) ⟨d, upd_same⟩

end
end My
namespace My
open PySem PySem.Spec PyProof.Rows L2 TL
/-! ### until when a copy may be served (as in k17) -/
def openB (r : RuleR) (w : WishR) : Bool := decide (w.left = 0) && (!r.strict && !w.firm)
def t1 (r : RuleR) (w : WishR) : Int := if openB r w = true then r.keep + mxI w.worn r.worn else r.keep - w.left
def u1 (r : RuleR) (w : WishR) : Int := if openB r w = true then mxI (r.keep + mxI w.worn r.worn) (r.keep + r.alone) else r.keep - w.left
def cutM (m : Option Int) (t : Int) : Int := match m with
  | none => t
  | some m => mnI t (m + 1)
def tillF (r : RuleR) (w : WishR) : Int := if (r.anew || w.anew) = true then 0 else cutM w.atmost (t1 r w)
def moreF (r : RuleR) (w : WishR) : Int := if (r.anew || w.anew) = true then 0 else cutM w.atmost (u1 r w)
theorem serv_all (r : RuleR) (w : WishR) (age : Int) (a0 : 0 ≤ age) (h1 : 0 ≤ w.left) (h2 : 0 ≤ w.worn) (al : Bool) : servB r w age al = decide (age < if al = true then moreF r w else tillF r w) := by
  have f1 : decide (("anew" : Str) ∈ (["fresh", "let", "worn"] : List Str)) = false := by decide
  have f2 : decide (("old" : Str) ∈ (["fresh", "let", "worn"] : List Str)) = false := by decide
  have f3 : decide (("fresh" : Str) ∈ (["fresh", "let", "worn"] : List Str)) = true := by decide
  have f4 : decide (("left" : Str) ∈ (["fresh", "let", "worn"] : List Str)) = false := by decide
  have f5 : decide (("firm" : Str) ∈ (["fresh", "let", "worn"] : List Str)) = false := by decide
  have f6 : decide (("let" : Str) ∈ (["fresh", "let", "worn"] : List Str)) = true := by decide
  have f7 : decide (("worn" : Str) ∈ (["fresh", "let", "worn"] : List Str)) = true := by decide
  have f8 : decide (("over" : Str) ∈ (["fresh", "let", "worn"] : List Str)) = false := by decide
  have o1 : decide (("anew" : Str) = "over") = false := by decide
  have o2 : decide (("old" : Str) = "over") = false := by decide
  have o4 : decide (("left" : Str) = "over") = false := by decide
  have o5 : decide (("firm" : Str) = "over") = false := by decide
  have o8 : decide (("over" : Str) = "over") = true := by decide
  unfold servB tillF moreF letW
  by_cases e1 : (r.anew || w.anew) = true
  · rw [if_pos e1, if_pos e1, if_pos e1, f1, o1]
    cases al <;> simp <;> omega
  rw [if_neg e1, if_neg e1, if_neg e1]
  unfold let2 overM cutM
  have key : (decide (let3 r w age ∈ (["fresh", "let", "worn"] : List Str)) || (al && (decide (let3 r w age = "over") && decide (age < r.keep + r.alone)))) = decide (age < if al = true then u1 r w else t1 r w) := by
    unfold let3 let4 let5 let6 let7 t1 u1 openB
    by_cases c3 : age + w.left < r.keep
    · rw [if_pos (decide_eq_true c3), f3, Bool.true_or, eq_comm, decide_eq_true_iff]
      have hm : ∀ i j, i ≤ mxI i j ∧ j ≤ mxI i j := fun i j => by
        unfold mxI
        split <;> omega
      have m1 := hm w.worn r.worn
      have m2 := hm (r.keep + mxI w.worn r.worn) (r.keep + r.alone)
      by_cases ob : (decide (w.left = 0) && (!r.strict && !w.firm)) = true
      · rw [if_pos ob, if_pos ob]
        have l0 : w.left = 0 := by
          simp only [Bool.and_eq_true, decide_eq_true_eq] at ob
          exact ob.1
        cases al <;> simp <;> omega
      · rw [if_neg ob, if_neg ob]
        cases al <;> simp <;> omega
    rw [if_neg (fun z => c3 (of_decide_eq_true z))]
    by_cases c4 : w.left > 0
    · rw [if_pos (decide_eq_true c4), f4, o4, decide_eq_false (show ¬ w.left = 0 by omega)]
      cases al <;> simp <;> omega
    rw [if_neg (fun z => c4 (of_decide_eq_true z)), decide_eq_true (show w.left = 0 by omega)]
    by_cases c5 : (r.strict || w.firm) = true
    · have ob : (!r.strict && !w.firm) = false := by
        cases h : r.strict <;> cases h' : w.firm <;> simp_all
      rw [if_pos c5, f5, o5, ob]
      cases al <;> simp <;> omega
    have ob : (!r.strict && !w.firm) = true := by
      cases h : r.strict <;> cases h' : w.firm <;> simp_all
    rw [if_neg c5, ob]
    simp only [Bool.and_self, if_pos]
    by_cases c6 : age < r.keep + w.worn
    · rw [if_pos (decide_eq_true c6), f6, Bool.true_or, eq_comm, decide_eq_true_iff]
      unfold mxI
      cases al <;> simp <;> repeat' (first | omega | split)
    rw [if_neg (fun z => c6 (of_decide_eq_true z))]
    by_cases c7 : age < r.keep + r.worn
    · rw [if_pos (decide_eq_true c7), f7, Bool.true_or, eq_comm, decide_eq_true_iff]
      unfold mxI
      cases al <;> simp <;> repeat' (first | omega | split)
    rw [if_neg (fun z => c7 (of_decide_eq_true z)), f8, o8]
    unfold mxI
    rw [Bool.eq_iff_iff]
    cases al <;> simp <;> repeat' (first | omega | split)
  cases hm : w.atmost with
  | none =>
    dsimp only
    rw [if_neg Bool.false_ne_true]
    exact key
  | some m =>
    dsimp only
    by_cases c : age > m
    · rw [if_pos (decide_eq_true c), f2, o2]
      unfold mnI
      rw [Bool.eq_iff_iff]
      cases al <;> simp <;> repeat' (first | omega | split)
    · rw [if_neg (fun z => c (of_decide_eq_true z)), key]
      unfold mnI
      rw [Bool.eq_iff_iff, decide_eq_true_iff, decide_eq_true_iff]
      cases al
      · rw [if_neg Bool.false_ne_true, if_neg Bool.false_ne_true]
        constructor <;> intro z <;> (try split) <;> (try split at z) <;> omega
      · rw [if_pos rfl, if_pos rfl]
        constructor <;> intro z <;> (try split) <;> (try split at z) <;> omega
/-! ### stricter ones -/
structure leR (R r : RuleR) : Prop where
  keep : R.keep ≤ r.keep
  worn : R.worn ≤ r.worn
  alone : R.alone ≤ r.alone
  anew : r.anew = true → R.anew = true
  strict : r.strict = true → R.strict = true
structure leW (R r : WishR) : Prop where
  atmost : ∀ m, r.atmost = some m → ∃ M, R.atmost = some M ∧ M ≤ m
  left : r.left ≤ R.left
  worn : R.worn ≤ r.worn
  anew : r.anew = true → R.anew = true
  firm : r.firm = true → R.firm = true
structure posR (r : RuleR) : Prop where
  keep : 0 ≤ r.keep
  worn : 0 ≤ r.worn
  alone : 0 ≤ r.alone
structure posW (r : WishR) : Prop where
  left : 0 ≤ r.left
  worn : 0 ≤ r.worn
theorem mn_le (i j : Int) : mnI i j ≤ i ∧ mnI i j ≤ j := by
  unfold mnI
  split <;> omega
theorem mx_ge (i j : Int) : i ≤ mxI i j ∧ j ≤ mxI i j := by
  unfold mxI
  split <;> omega
theorem mx_le {i j m : Int} (h : i ≤ m) (k : j ≤ m) : mxI i j ≤ m := by
  unfold mxI
  split <;> omega
theorem leR.refl (r : RuleR) : leR r r := ⟨Int.le_refl _, Int.le_refl _, Int.le_refl _, id, id⟩
theorem leW.refl (r : WishR) : leW r r := ⟨fun m h => ⟨m, h, Int.le_refl _⟩, Int.le_refl _, Int.le_refl _, id, id⟩
theorem leR.trans {a b c : RuleR} (x : leR a b) (y : leR b c) : leR a c := ⟨Int.le_trans x.keep y.keep, Int.le_trans x.worn y.worn, Int.le_trans x.alone y.alone, x.anew ∘ y.anew, x.strict ∘ y.strict⟩
theorem leW.trans {a b c : WishR} (x : leW a b) (y : leW b c) : leW a c := ⟨fun m h => by
  obtain ⟨M, h1, h2⟩ := y.atmost m h
  obtain ⟨N, h3, h4⟩ := x.atmost M h1
  exact ⟨N, h3, Int.le_trans h4 h2⟩, Int.le_trans y.left x.left, Int.le_trans x.worn y.worn, x.anew ∘ y.anew, x.firm ∘ y.firm⟩
theorem bothR_l (r s : RuleR) : leR (bothR r s) r := ⟨(mn_le _ _).1, (mn_le _ _).1, (mn_le _ _).1, fun h => by show (r.anew || s.anew) = true; rw [h]; rfl, fun h => by show (r.strict || s.strict) = true; rw [h]; rfl⟩
theorem bothR_r (r s : RuleR) : leR (bothR r s) s := ⟨(mn_le _ _).2, (mn_le _ _).2, (mn_le _ _).2, fun h => by show (r.anew || s.anew) = true; rw [h, Bool.or_true], fun h => by show (r.strict || s.strict) = true; rw [h, Bool.or_true]⟩
theorem lesO_l (a b : Option Int) (m : Int) (h : a = some m) : ∃ M, lesO a b = some M ∧ M ≤ m := by
  subst h
  cases b with
  | none => exact ⟨m, rfl, Int.le_refl _⟩
  | some b => exact ⟨mnI m b, rfl, (mn_le _ _).1⟩
theorem lesO_r (a b : Option Int) (m : Int) (h : b = some m) : ∃ M, lesO a b = some M ∧ M ≤ m := by
  subst h
  cases a with
  | none => exact ⟨m, rfl, Int.le_refl _⟩
  | some a => exact ⟨mnI a m, rfl, (mn_le _ _).2⟩
theorem bothW_l (r s : WishR) : leW (bothW r s) r := ⟨fun m h => lesO_l _ _ m h, (mx_ge _ _).1, (mn_le _ _).1, fun h => by show (r.anew || s.anew) = true; rw [h]; rfl, fun h => by show (r.firm || s.firm) = true; rw [h]; rfl⟩
theorem bothW_r (r s : WishR) : leW (bothW r s) s := ⟨fun m h => lesO_r _ _ m h, (mx_ge _ _).2, (mn_le _ _).2, fun h => by show (r.anew || s.anew) = true; rw [h, Bool.or_true], fun h => by show (r.firm || s.firm) = true; rw [h, Bool.or_true]⟩
theorem mn_pos {i j : Int} (h : 0 ≤ i) (h2 : 0 ≤ j) : 0 ≤ mnI i j := by
  unfold mnI
  split <;> omega
theorem posR.both {r s : RuleR} (a : posR r) (b : posR s) : posR (bothR r s) := ⟨mn_pos a.keep b.keep, mn_pos a.worn b.worn, mn_pos a.alone b.alone⟩
theorem posW.both {r s : WishR} (a : posW r) (b : posW s) : posW (bothW r s) := ⟨Int.le_trans a.left (mx_ge _ _).1, mn_pos a.worn b.worn⟩
theorem serv_mono {R r : RuleR} {W w : WishR} (h : leR R r) (k : leW W w) (pW : posW W) (pw : posW w) {age : Int} (a0 : 0 ≤ age) {al : Bool} (hs : servB R W age al = true) : servB r w age al = true := by
  rw [serv_all _ _ _ a0 pW.left pW.worn, decide_eq_true_iff] at hs
  rw [serv_all _ _ _ a0 pw.left pw.worn, decide_eq_true_iff]
  refine Int.lt_of_lt_of_le hs ?_
  have w0 := pw.left
  have w1 := pw.worn
  have W0 := pW.left
  have k1 := k.left
  have k2 := k.worn
  have h1 := h.keep
  have h2 := h.worn
  have h3 := h.alone
  have hop : openB R W = true → openB r w = true := fun e => by
    unfold openB at e ⊢
    simp only [Bool.and_eq_true, decide_eq_true_eq, Bool.not_eq_true'] at e ⊢
    refine ⟨by omega, ?_, ?_⟩
    · cases hc : r.strict with
      | false => rfl
      | true =>
        rw [h.strict hc] at e
        cases e.2.1
    · cases hc : w.firm with
      | false => rfl
      | true =>
        rw [k.firm hc] at e
        cases e.2.2
  have mm : mxI W.worn R.worn ≤ mxI w.worn r.worn := by
    have := mx_ge w.worn r.worn
    unfold mxI at this ⊢
    split <;> omega
  have m0 : w.worn ≤ mxI w.worn r.worn := (mx_ge _ _).1
  have t_le : t1 R W ≤ t1 r w := by
    unfold t1
    by_cases e : openB R W = true
    · rw [if_pos e, if_pos (hop e)]
      omega
    · rw [if_neg e]
      split <;> omega
  have u_le : u1 R W ≤ u1 r w := by
    unfold u1
    have m2 := mx_ge (r.keep + mxI w.worn r.worn) (r.keep + r.alone)
    by_cases e : openB R W = true
    · rw [if_pos e, if_pos (hop e)]
      have : mxI (R.keep + mxI W.worn R.worn) (R.keep + R.alone) ≤ mxI (r.keep + mxI w.worn r.worn) (r.keep + r.alone) := mx_le (by omega) (by omega)
      exact this
    · rw [if_neg e]
      split <;> omega
  have c_le : ∀ a b : Int, a ≤ b → cutM W.atmost a ≤ cutM w.atmost b := fun a b hab => by
    cases hw : w.atmost with
    | none =>
      show cutM W.atmost a ≤ b
      cases hW : W.atmost with
      | none => exact hab
      | some M => exact Int.le_trans (mn_le _ _).1 hab
    | some m =>
      obtain ⟨M, hM, hle⟩ := k.atmost m hw
      rw [hM]
      show mnI a (M + 1) ≤ mnI b (m + 1)
      unfold mnI
      split <;> split <;> omega
  by_cases e : (R.anew || W.anew) = true
  · exfalso
    cases al <;> simp only [tillF, moreF, if_pos e, Bool.false_eq_true, if_false, if_true] at hs <;> omega
  · have e2 : ¬ (r.anew || w.anew) = true := fun z => e (by
      rcases (Bool.or_eq_true _ _).mp z with z | z
      · rw [h.anew z]
        rfl
      · rw [k.anew z, Bool.or_true])
    cases al
    · simp only [Bool.false_eq_true, if_false, tillF, if_neg e, if_neg e2]
      exact c_le _ _ t_le
    · simp only [if_true, moreF, if_neg e, if_neg e2]
      exact c_le _ _ u_le
/-! ### fresh -/
def frB (r : RuleR) (w : WishR) (age : Int) : Prop := r.anew = false ∧ w.anew = false ∧ (∀ m, w.atmost = some m → age ≤ m) ∧ age + w.left < r.keep
theorem fresh_iff (r : RuleR) (w : WishR) (age : Int) : letW r w age = "fresh" ↔ frB r w age := by
  unfold letW frB
  by_cases e1 : (r.anew || w.anew) = true
  · rw [if_pos e1]
    constructor
    · intro z
      exact absurd z (by decide)
    · rintro ⟨a, b, _⟩
      rw [a, b] at e1
      cases e1
  rw [if_neg e1]
  have ha : r.anew = false ∧ w.anew = false := by
    cases h1 : r.anew <;> cases h2 : w.anew <;> simp_all
  unfold let2
  have hm : overM w age = true ↔ ¬ ∀ m, w.atmost = some m → age ≤ m := by
    unfold overM
    cases h : w.atmost with
    | none => simp
    | some m => simp
  by_cases e2 : overM w age = true
  · rw [if_pos e2]
    constructor
    · intro z
      exact absurd z (by decide)
    · rintro ⟨_, _, c, _⟩
      exact absurd c (hm.mp e2)
  rw [if_neg e2]
  have hc : ∀ m, w.atmost = some m → age ≤ m := Classical.byContradiction fun z => e2 (hm.mpr z)
  unfold let3
  by_cases e3 : age + w.left < r.keep
  · rw [if_pos (decide_eq_true e3)]
    exact ⟨fun _ => ⟨ha.1, ha.2, hc, e3⟩, fun _ => rfl⟩
  · rw [if_neg (fun z => e3 (of_decide_eq_true z))]
    constructor
    · intro z
      exfalso
      unfold let4 let5 let6 let7 at z
      revert z
      split
      · decide
      · split
        · decide
        · split
          · decide
          · split <;> decide
    · rintro ⟨_, _, _, d⟩
      exact absurd d e3
theorem fr_bothR (r s : RuleR) (w : WishR) (age : Int) : frB (bothR r s) w age ↔ frB r w age ∧ frB s w age := by
  unfold frB
  have hk : (bothR r s).keep = mnI r.keep s.keep := rfl
  have ha : (bothR r s).anew = (r.anew || s.anew) := rfl
  rw [hk, ha]
  have : age + w.left < mnI r.keep s.keep ↔ age + w.left < r.keep ∧ age + w.left < s.keep := by
    unfold mnI
    split <;> omega
  rw [this, Bool.or_eq_false_iff]
  constructor
  · rintro ⟨⟨a, b⟩, c, d, e, f⟩
    exact ⟨⟨a, c, d, e⟩, b, c, d, f⟩
  · rintro ⟨⟨a, c, d, e⟩, b, _, _, f⟩
    exact ⟨⟨a, b⟩, c, d, e, f⟩
theorem fr_bothW (r : RuleR) (w v : WishR) (age : Int) : frB r (bothW w v) age ↔ frB r w age ∧ frB r v age := by
  unfold frB
  have hk : (bothW w v).left = mxI w.left v.left := rfl
  have ha : (bothW w v).anew = (w.anew || v.anew) := rfl
  have hm : (bothW w v).atmost = lesO w.atmost v.atmost := rfl
  rw [hk, ha, hm]
  have : age + mxI w.left v.left < r.keep ↔ age + w.left < r.keep ∧ age + v.left < r.keep := by
    unfold mxI
    split <;> omega
  have h2 : (∀ m, lesO w.atmost v.atmost = some m → age ≤ m) ↔ (∀ m, w.atmost = some m → age ≤ m) ∧ ∀ m, v.atmost = some m → age ≤ m := by
    constructor
    · intro h
      refine ⟨fun m e => ?_, fun m e => ?_⟩
      · obtain ⟨M, h1, h3⟩ := lesO_l w.atmost v.atmost m e
        exact Int.le_trans (h M h1) h3
      · obtain ⟨M, h1, h3⟩ := lesO_r w.atmost v.atmost m e
        exact Int.le_trans (h M h1) h3
    · rintro ⟨h, k⟩ m e
      cases hw : w.atmost with
      | none =>
        rw [hw] at e
        exact k m e
      | some a =>
        cases hv : v.atmost with
        | none =>
          rw [hw, hv] at e
          cases e
          exact h _ hw
        | some b =>
          rw [hw, hv] at e
          cases e
          have := h _ hw
          have := k _ hv
          unfold mnI
          split <;> omega
  rw [this, h2, Bool.or_eq_false_iff]
  constructor
  · rintro ⟨a, ⟨b, c⟩, ⟨d, e⟩, f, g⟩
    exact ⟨⟨a, b, d, f⟩, a, c, e, g⟩
  · rintro ⟨⟨a, b, d, f⟩, _, c, e, g⟩
    exact ⟨a, ⟨b, c⟩, ⟨d, e⟩, f, g⟩
/-! ### all of them -/
def allR (r : RuleR) (rs : List RuleR) : RuleR := rs.foldl bothR r
def allW (r : WishR) (rs : List WishR) : WishR := rs.foldl (fun t o => bothW o t) r
theorem allR_le : ∀ (rs : List RuleR) (r : RuleR), leR (allR r rs) r ∧ ∀ s ∈ rs, leR (allR r rs) s
  | [], r => ⟨leR.refl r, fun _ h => nomatch h⟩
  | x :: rs, r => by
    obtain ⟨h1, h2⟩ := allR_le rs (bothR r x)
    refine ⟨h1.trans (bothR_l r x), fun s hs => ?_⟩
    rcases List.mem_cons.mp hs with rfl | hs
    · exact h1.trans (bothR_r r s)
    · exact h2 s hs
theorem allW_le : ∀ (rs : List WishR) (r : WishR), leW (allW r rs) r ∧ ∀ s ∈ rs, leW (allW r rs) s
  | [], r => ⟨leW.refl r, fun _ h => nomatch h⟩
  | x :: rs, r => by
    obtain ⟨h1, h2⟩ := allW_le rs (bothW x r)
    refine ⟨h1.trans (bothW_r x r), fun s hs => ?_⟩
    rcases List.mem_cons.mp hs with rfl | hs
    · exact h1.trans (bothW_l s r)
    · exact h2 s hs
theorem allR_fr (w : WishR) (age : Int) : ∀ (rs : List RuleR) (r : RuleR), frB (allR r rs) w age ↔ frB r w age ∧ ∀ s ∈ rs, frB s w age
  | [], r => ⟨fun h => ⟨h, fun _ z => nomatch z⟩, fun h => h.1⟩
  | x :: rs, r => by
    show frB (allR (bothR r x) rs) w age ↔ _
    rw [allR_fr w age rs (bothR r x), fr_bothR]
    simp [and_assoc]
theorem allW_fr (q : RuleR) (age : Int) : ∀ (rs : List WishR) (r : WishR), frB q (allW r rs) age ↔ frB q r age ∧ ∀ s ∈ rs, frB q s age
  | [], r => ⟨fun h => ⟨h, fun _ z => nomatch z⟩, fun h => h.1⟩
  | x :: rs, r => by
    show frB q (allW (bothW x r) rs) age ↔ _
    rw [allW_fr q age rs (bothW x r), fr_bothW]
    constructor
    · rintro ⟨⟨a, b⟩, c⟩
      exact ⟨b, fun s hs => by
        rcases List.mem_cons.mp hs with rfl | hs
        · exact a
        · exact c s hs⟩
    · rintro ⟨b, c⟩
      exact ⟨⟨c x (List.mem_cons_self ..), b⟩, fun s hs => c s (List.mem_cons_of_mem _ hs)⟩
theorem allR_pos : ∀ (rs : List RuleR) (r : RuleR), posR r → (∀ s ∈ rs, posR s) → posR (allR r rs)
  | [], r, h, _ => h
  | x :: rs, r, h, k => allR_pos rs (bothR r x) (h.both (k x (List.mem_cons_self ..))) fun s hs => k s (List.mem_cons_of_mem _ hs)
theorem allW_pos : ∀ (rs : List WishR) (r : WishR), posW r → (∀ s ∈ rs, posW s) → posW (allW r rs)
  | [], r, h, _ => h
  | x :: rs, r, h, k => allW_pos rs (bothW x r) ((k x (List.mem_cons_self ..)).both h) fun s hs => k s (List.mem_cons_of_mem _ hs)
theorem mn_comm (i j : Int) : mnI i j = mnI j i := by
  unfold mnI
  split <;> split <;> omega
theorem mn_assoc (i j k : Int) : mnI (mnI i j) k = mnI i (mnI j k) := by
  unfold mnI
  split <;> split <;> (try split) <;> (try split) <;> omega
theorem bothR_comm (r s : RuleR) : bothR r s = bothR s r := by
  unfold bothR
  rw [mn_comm r.keep, mn_comm r.worn, mn_comm r.alone, Bool.or_comm r.anew, Bool.or_comm r.own, Bool.and_comm r.common, Bool.or_comm r.never, Bool.or_comm r.strict]
theorem bothR_assoc (r s t : RuleR) : bothR (bothR r s) t = bothR r (bothR s t) := by
  unfold bothR
  dsimp only
  rw [mn_assoc, mn_assoc, mn_assoc, Bool.or_assoc, Bool.or_assoc, Bool.and_assoc, Bool.or_assoc, Bool.or_assoc]
theorem foldR_out : ∀ (l : List RuleR) (a b : RuleR), l.foldl bothR (bothR b a) = bothR b (l.foldl bothR a)
  | [], a, b => rfl
  | x :: l, a, b => by
    show l.foldl bothR (bothR (bothR b a) x) = bothR b (l.foldl bothR (bothR a x))
    rw [bothR_assoc, foldR_out l (bothR a x) b]
/-- in whatever order they are put together -/
theorem turned (a : RuleR) (l : List RuleR) (b : RuleR) : (a :: l).foldl (fun t o => bothR o t) b = allR a (l ++ [b]) := by
  have e : (fun t o => bothR o t) = bothR := by
    funext t o
    exact bothR_comm o t
  rw [e]
  show l.foldl bothR (bothR b a) = _
  unfold allR
  rw [foldR_out, List.foldl_append, bothR_comm]
  rfl
end My
namespace My
open PySem PySem.Spec PyProof.Rows L2 TL
/-! ### ts.count(t) of a list of texts -/
def rCntS (K : PySem.W.Frag) : V → List V → Hp → VK → Prop := fun x xs H Q => ∃ (p : Addr) (bs : List Str) (k : Str), x = .ref p ∧ xs = [.str k] ∧ SqL K H p (bs.map V.str) ∧ Q (.int (bs.countP (fun b => decide (b = k)) : Nat)) H
theorem plain_strs : ∀ bs : List Str, PyData.plainAll (bs.map PyData.str) = true
  | [] => rfl
  | _ :: r => by simp [PyData.plainAll, PyData.plain, plain_strs r]
theorem count_strs (k : Str) : ∀ bs : List Str, (bs.map PyData.str).countP (fun y => PyData.eqv y (.str k)) = bs.countP fun b => decide (b = k)
  | [] => rfl
  | b :: r => by
    rw [List.map_cons, List.countP_cons, List.countP_cons, count_strs k r]
    have : PyData.eqv (.str b) (.str k) = decide (b = k) := by
      simp [PyData.eqv]
      rw [Bool.eq_iff_iff]
      simp
    rw [this]
theorem mt_scount {X : Cx} (hu : X.A.units + 64 < cLine) : MtR X "list.count" (rCntS X.K) := by
  intro pins s σ H x xs v us Q I rx rxs h
  obtain ⟨p, bs, k, rfl, rfl, hs, q⟩ := h
  cases rx
  obtain ⟨u, rfl, ru⟩ := rxs.one
  obtain ⟨its, rv, hl, hlen⟩ := I.list hs
  obtain ⟨as, ra⟩ := Dp.readsAll I _ _ _ (dp_strs bs) rv
  obtain ⟨as2, r2⟩ := Dp.reads I (.str k) (.str k) u (.str k) ru
  refine PySem.SeqAt.count_list_data (xs := bs.map PyData.str) (d := .str k) hl.isList (by simpa using ra) r2 (plain_strs bs) rfl ?_ ?_
  · have := depth_strs bs
    rw [this]
    show X.A.units + 1 + min 0 _ < cLine
    omega
  · rw [count_strs]
    exact ⟨.int _, H, I.tok _, ⟨_, rfl⟩, q⟩

section
variable {P : Program} {w : World} {K : PySem.W.Frag} {mg : Str → Option Value} {base : Heap}
def spNum : Sp := fun vs H Q _ => ∃ (W : Addr) (near : Int), vs = [.ref W, .int near] ∧ 0 ≤ near ∧ IsW H W ∧ ∀ n H', 0 ≤ n → Wx W H H' → Q (.int n) H'
theorem ok_law_number (T : Txt K mg) : FnOk P w K mg base CX0 2 T.f_law_number T.fd_law_number ["_law_well_here", "_law_near"] spNum := by
  refine T.d_law_number.F.ok sc_law_number (fun vs H Q E h => ?_) (fun cdv A outer s H vs Q E hr h => ?_)
  · obtain ⟨W, near, rfl, _⟩ := h
    rfl
  · obtain ⟨W, near, rfl, hn, hI, q⟩ := h
    refine ⟨_, (pss_cons (ps_set (i := 2) sc_law_number.nd rfl (.inl rfl) (pe_call (ok_law_draw T) (hr.mono (by decide)) (by rfl) T.d_law_draw.g T.d_law_draw.F.kp T.d_law_draw.b .nil pass0 (pa_cons (pv 0) (pa_cons pe_int pa_nil))))
      (pss_cons (ps_set (i := 3) sc_law_number.nd rfl (.inl rfl) pe_int)
      (Evl.pss_cut (ps_if (pt_cmpR op_eq (pv 2) pe_int (nomark _))
      (pss_one (ps_for PassesOwn.never rfl (pi_range1 (by rfl) T.m_range (pa_cons pe_int pa_nil)) (pg_name (i := 4) sc_law_number.nd rfl (.inl rfl))
      (pss_one (ps_set (i := 3) sc_law_number.nd rfl (.inl rfl) (pe_op op_add (pe_op op_mul (pv 3) (pe_op op_pow pe_int pe_int)) (pe_call (ok_law_draw T) (hr.mono (by decide)) (by rfl) T.d_law_draw.g T.d_law_draw.F.kp T.d_law_draw.b .nil pass0 (pa_cons (pv 0) (pa_cons (pe_op op_pow pe_int pe_int) pa_nil))))))))
      pss_nil)
      (pss_cons (ps_set (i := 5) sc_law_number.nd rfl (.inl rfl) (pe_call (ok_law_draw T) (hr.mono (by decide)) (by rfl) T.d_law_draw.g T.d_law_draw.F.kp T.d_law_draw.b .nil pass0 (pa_cons (pv 0) (pa_cons pe_int pa_nil))))
      (pss_one (ps_ret (pe_ix ix_list (pe_lst (pa_cons (pv 3) (pa_cons (pv 5) (pa_cons (pv 5) (pa_cons (pv 1) (pa_cons (pe_op op_add (pv 1) pe_int) (pa_cons (pe_callB (call_max2 rfl) (by rfl) T.m_max (by decide +kernel) (pa_cons pe_int (pa_cons (pe_op op_sub (pv 1) pe_int) pa_nil))) (pa_cons pe_int (pa_cons (pe_op op_mul pe_int (pv 5)) pa_nil))))))))) (pv 2) (fun _ _ => rfl)))))))), ?_⟩
    refine ⟨.ref W, rfl, W, 8, rfl, by decide, by decide, hI, fun lot H1 l0 l1 x1 => ?_⟩
    refine ⟨fun σ H' => ∃ (g : Int) (y : Option V), 0 ≤ g ∧ Wx W H H' ∧ σ = [some (.ref W), some (.int near), some (.int lot), some (.int g), y, none], ?_, ?_⟩
    · refine ⟨_, rfl, rfl, _, rfl, ite2 (fun e => ?_) (fun e => ?_)⟩
      · refine ⟨7, rfl, by decide, by decide, for_range (lo := 0) (n := 7) (fun i σ H' => ∃ (n : Int) (y : Option V), 0 ≤ n ∧ Wx W H H' ∧ σ = [some (.ref W), some (.int near), some (.int lot), some (.int n), y, none]) ⟨0, none, by decide, x1, rfl⟩ ?_ ?_⟩
        · rintro i σ H2 hi ⟨n, y, n0, x2, rfl⟩
          refine ⟨.int n, rfl, 10, 8, rfl, rfl, ⟨by decide, by decide, by decide⟩, n, _, rfl, rfl, .inr ⟨by decide, by decide⟩, .ref W, rfl, 10, 8, rfl, rfl, ⟨by decide, by decide, by decide⟩, W, _, rfl, by decide, by decide, x2.well, fun r H3 r0 r1 x3 => ⟨_, r, rfl, rfl, _, _, ?_, x2.trans x3, rfl⟩⟩
          have : 0 ≤ n * 10 ^ (8 : Int).toNat := Int.mul_nonneg n0 (by decide)
          omega
        · rintro σ H2 ⟨n, y, n0, x2, rfl⟩
          exact ⟨n, y, n0, x2, rfl⟩
      · exact ⟨0, none, by decide, x1, rfl⟩
    rintro σ H2 ⟨g, y, g0, x2, rfl⟩
    refine ⟨.ref W, rfl, W, 40, rfl, by decide, by decide, x2.well, fun sm H3 s0 s1 x3 => ?_⟩
    refine ⟨_, rfl, _, rfl, _, rfl, _, rfl, _, rfl, _, _, rfl, rfl, _, rfl, _, _, rfl, rfl, _, _, rfl, _, rfl, 3, sm, rfl, rfl, .inl ⟨by decide, by decide⟩, (by show 8 ≤ sizeLine; decide), fun p hp => ?_⟩
    obtain ⟨n, hn', en⟩ := ints_at (ns := [g, sm, sm, near, near + 1, mxI 0 (near - 1), 0, 3 * sm]) (r := lot) l0 (by show lot < 8; omega)
    have bn : 0 ≤ n := by
      simp only [List.mem_cons, List.not_mem_nil, or_false] at hn'
      have := mx_ge 0 (near - 1)
      rcases hn' with rfl | rfl | rfl | rfl | rfl | rfl | rfl | rfl <;> omega
    exact ⟨_, rfl, p, _, _, _, rfl, rfl, SqL.of upd_same, en, q n _ bn ((x2.trans x3).new hp)⟩
/-! ### rows -/
def RRow (C : Addr) (bad : List Addr) (H : Hp) (v : V) (r : RuleR) : Prop := ∃ t p s : Addr, v = .ref t ∧ H t = some (.tup [.ref p, .ref s]) ∧ RuleAt C H p r ∧ H s = some (.lst [.int r.keep, .int (r.keep + r.worn), .int (r.keep + r.alone)]) ∧ s ∉ bad ∧ posR r
def WRow (C : Addr) (bad : List Addr) (H : Hp) (v : V) (w : WishR) : Prop := ∃ (t p m b : Addr) (ms : List Int) (x y : Int), v = .ref t ∧ H t = some (.tup [.ref p, .ref m, .ref b]) ∧ WishAt C H p w ∧ H m = some (.lst (ms.map V.int)) ∧ ms.length ≤ 1 ∧ H b = some (.lst [.int x, .int y]) ∧ m ∉ bad ∧ b ∉ bad ∧ posW w
/-- all stands but at bad lists -/
def Kp (bad : List Addr) (H H' : Hp) : Prop := (∀ b o, b ∉ bad → H b = some o → H' b = some o) ∧ ∀ b, b ∈ bad → ∃ zs, H b = some (.lst zs)
theorem Kp.same {bad : List Addr} {H H' : Hp} (s : Same H H') (l : ∀ b, b ∈ bad → ∃ zs, H b = some (.lst zs)) : Kp bad H H' := ⟨fun b o _ e => s b o e, l⟩
theorem Kp.off {bad : List Addr} {H H' : Hp} (k : Kp bad H H') {a : Addr} {o : HO} (h : H a = some o) (n : ∀ zs, o ≠ .lst zs) : H' a = some o := k.1 a o (fun z => by
  obtain ⟨zs, e⟩ := k.2 a z
  rw [h] at e
  exact n zs (Option.some.inj e)) h
theorem RRow.mono {C : Addr} {bad : List Addr} {H H' : Hp} {v : V} {r : RuleR} (k : Kp bad H H') : RRow C bad H v r → RRow C bad H' v r := fun ⟨t, p, s, e, h1, ⟨dx, h2⟩, h3, h4, h5⟩ =>
  ⟨t, p, s, e, k.off h1 (fun _ z => by cases z), ⟨dx, k.off h2 (fun _ z => by cases z)⟩, k.1 _ _ h4 h3, h4, h5⟩
theorem WRow.mono {C : Addr} {bad : List Addr} {H H' : Hp} {v : V} {r : WishR} (k : Kp bad H H') : WRow C bad H v r → WRow C bad H' v r := fun ⟨t, p, m, b, ms, x, y, e, h1, ⟨dx, h2⟩, h3, h4, h5, h6, h7, h8⟩ =>
  ⟨t, p, m, b, ms, x, y, e, k.off h1 (fun _ z => by cases z), ⟨dx, k.off h2 (fun _ z => by cases z)⟩, k.1 _ _ h6 h3, h4, k.1 _ _ h7 h5, h6, h7, h8⟩
theorem rrows_mono {C : Addr} {bad : List Addr} {H H' : Hp} {xs : List V} {rs : List RuleR} (k : Kp bad H H') (h : Paired (RRow C bad H) xs rs) : Paired (RRow C bad H') xs rs := Paired.mono (fun _ _ => RRow.mono k) h
theorem wrows_mono {C : Addr} {bad : List Addr} {H H' : Hp} {xs : List V} {rs : List WishR} (k : Kp bad H H') (h : Paired (WRow C bad H) xs rs) : Paired (WRow C bad H') xs rs := Paired.mono (fun _ _ => WRow.mono k) h
theorem fiveB {bs : List Bool} (h : bs.length = 5) : ∃ a b c d e, bs = [a, b, c, d, e] := match bs, h with
  | [a, b, c, d, e], _ => ⟨a, b, c, d, e, rfl⟩
theorem threeB {bs : List Bool} (h : bs.length = 3) : ∃ a b c, bs = [a, b, c] := match bs, h with
  | [a, b, c], _ => ⟨a, b, c, rfl⟩
def spRule (C : Addr) : Sp := fun vs H Q _ => ∃ (W : Addr) (near : Int), vs = [.ref W, .int near] ∧ 0 ≤ near ∧ IsW H W ∧ ∀ t p s r H', Wx W H H' → H t = none → H p = none → H s = none → H' t = some (.tup [.ref p, .ref s]) → RuleAt C H' p r → H' s = some (.lst [.int r.keep, .int (r.keep + r.worn), .int (r.keep + r.alone)]) → posR r → Q (.ref t) H'
theorem ok_law_rule (T : Txt K mg) : FnOk P w K mg base CX0 3 T.f_law_rule T.fd_law_rule ["_law_well_here", "_law_ahead"] (spRule T.C_Rule) := by
  refine T.d_law_rule.F.ok sc_law_rule (fun vs H Q E h => ?_) (fun cdv A outer s H vs Q E hr h => ?_)
  · obtain ⟨W, near, rfl, _⟩ := h
    rfl
  · obtain ⟨W, near, rfl, hn, hI, q⟩ := h
    refine ⟨_, (pss_cons (ps_set (i := 2) sc_law_rule.nd rfl (.inl rfl) (pe_call (ok_law_number T) (hr.mono (by decide)) (by rfl) T.d_law_number.g T.d_law_number.F.kp T.d_law_number.b .nil pass0 (pa_cons (pv 0) (pa_cons (pv 1) pa_nil))))
      (pss_cons (ps_set (i := 3) sc_law_rule.nd rfl (.inl rfl) (pe_call (ok_law_number T) (hr.mono (by decide)) (by rfl) T.d_law_number.g T.d_law_number.F.kp T.d_law_number.b .nil pass0 (pa_cons (pv 0) (pa_cons pe_int pa_nil))))
      (pss_cons (ps_set (i := 4) sc_law_rule.nd rfl (.inl rfl) (pe_call (ok_law_number T) (hr.mono (by decide)) (by rfl) T.d_law_number.g T.d_law_number.F.kp T.d_law_number.b .nil pass0 (pa_cons (pv 0) (pa_cons (pv 3) pa_nil))))
      (pss_cons (ps_setLc (i := 5) (own := [("_law_k", 7)]) (g := gName 7) (tt := tYes) (by rfl) sc_law_rule.nd rfl rfl (sw_true rfl rfl rfl (by decide +kernel)) (pi_range1 (by rfl) T.m_range (pa_cons pe_int pa_nil)) (blkOk_by (own := [("_law_k", 7)]) (N := ["_law_well_here", "_law_ahead", "_law_a", "_law_b", "_law_c", "_law_truths", "_law_made", "_law_k"]) (sc := defScope s_law_rule) (by decide +kernel)) (fun _ _ _ _ _ => (pg_name (i := 7) sc_law_rule.nd rfl (Or.inl rfl))) (fun _ _ _ _ _ => pts_nil) (fun _ _ _ _ _ => (pe_cmpR op_eq (pe_call (ok_law_draw T) (hr.mono (by decide)) (by rfl) T.d_law_draw.g T.d_law_draw.F.kp T.d_law_draw.b .nil pass0 (pa_cons (pv 0) (pa_cons pe_int pa_nil))) pe_int (nomark _))))
      (pss_cons (ps_set (i := 6) sc_law_rule.nd rfl (.inl rfl) (pe_makeK0 T.mk_Rule (ok_Rule_init T) (hr.mono (by decide)) (by rfl) T.g_Rule T.kb_0.choose_spec pass0 (pk_cons (pv 2) (pk_cons (pv 3) (pk_cons (pv 4) (pk_cons (pe_ix ix_list (pv 5) pe_int (fun _ _ => rfl)) (pk_cons (pe_ix ix_list (pv 5) pe_int (fun _ _ => rfl)) (pk_cons (pe_ix ix_list (pv 5) pe_int (fun _ _ => rfl)) (pk_cons (pe_ix ix_list (pv 5) pe_int (fun _ _ => rfl)) pk_nil)))))))))
      (pss_one (ps_ret (pe_tup (pa_cons (pv 6) (pa_cons (pe_lst (pa_cons (pv 2) (pa_cons (pe_op op_add (pv 2) (pv 3)) (pa_cons (pe_op op_add (pv 2) (pv 4)) pa_nil)))) pa_nil)))))))))), ?_⟩
    refine ⟨.ref W, rfl, _, rfl, W, near, rfl, hn, hI, fun a H1 a0 x1 => ⟨.ref W, rfl, W, 3, rfl, by decide, x1.well, fun b H2 b0 x2 => ⟨.ref W, rfl, _, rfl, W, b, rfl, b0, x2.well, fun c H3 c0 x3 => ?_⟩⟩⟩
    have x13 := (x1.trans x2).trans x3
    refine ⟨5, rfl, by decide, by decide, fun D hD => ?_⟩
    have nWD : W ≠ D := x3.well.ne hD
    have hD0 : H D = none := x13.free hD
    refine lc_range (lo := 0) (n := 5) (fun i H' => ∃ bs : List Bool, bs.length = i ∧ Wx W H H' ∧ H' D = some (.lst (bs.map V.bl))) ⟨[], rfl, x13.new hD, upd_same⟩ ?_ ?_
    · rintro i H' hi ⟨bs, bn, x, eD⟩
      refine ⟨rfl, .ref W, rfl, W, 9, rfl, by decide, by decide, x.well, fun r H5 r0 r1 x5 => ⟨rfl, _, x5.keep D _ nWD.symm eD, by rw [List.length_map]; exact szlt (by omega), bs ++ [decide (V.int r = V.int 0)], by rw [List.length_append, bn]; rfl, (x.trans x5).mut hD0 nWD, by rw [upd_same, List.map_append]; rfl⟩⟩
    rintro H4 ⟨bs, bn, x4, eD⟩
    obtain ⟨b0', b1, b2, b3, b4, rfl⟩ := fiveB bn
    have i0 : atI ([b0', b1, b2, b3, b4].map V.bl) 0 = some (.bl b0') := rfl
    have i1 : atI ([b0', b1, b2, b3, b4].map V.bl) 1 = some (.bl b1) := rfl
    have i2 : atI ([b0', b1, b2, b3, b4].map V.bl) 2 = some (.bl b2) := rfl
    have i3 : atI ([b0', b1, b2, b3, b4].map V.bl) 3 = some (.bl b3) := rfl
    refine ⟨_, rfl, _, rfl, _, rfl, .ref D, rfl, D, _, 0, _, rfl, rfl, SqL.of eD, i0, .ref D, rfl, D, _, 1, _, rfl, rfl, SqL.of eD, i1, .ref D, rfl, D, _, 2, _, rfl, rfl, SqL.of eD, i2, .ref D, rfl, D, _, 3, _, rfl, rfl, SqL.of eD, i3, rfl, rfl, fun p dx np ndx ndp => ⟨p, dx, ⟨a, b, c, b0', b2, false, b3, b1⟩, rfl, upd_same, rfl, ?_⟩⟩
    rw [upd_upd]
    have s5 := (same_upd (o := .own p) ndx).trans (same_upd (o := .ins T.C_Rule dx (fR ⟨a, b, c, b0', b2, false, b3, b1⟩)) (by rw [upd_ne ndp.symm]; exact np))
    have ep : (upd (upd H4 dx (.own p)) p (.ins T.C_Rule dx (fR ⟨a, b, c, b0', b2, false, b3, b1⟩))) p = some (.ins T.C_Rule dx (fR ⟨a, b, c, b0', b2, false, b3, b1⟩)) := upd_same
    generalize upd (upd H4 dx (.own p)) p (.ins T.C_Rule dx (fR ⟨a, b, c, b0', b2, false, b3, b1⟩)) = H5 at *
    refine ⟨_, rfl, _, rfl, _, rfl, _, rfl, _, _, rfl, rfl, _, rfl, _, rfl, _, _, rfl, rfl, (by show 3 ≤ sizeLine; decide), fun s hs => ⟨(by show 2 ≤ sizeLine; decide), fun t ht => ?_⟩⟩
    have s6 := same_upd (o := .lst [.int a, .int (a + b), .int (a + c)]) hs
    have s7 := same_upd (o := .tup [.ref p, .ref s]) ht
    have x5 := x4.same s5
    exact q t p s ⟨a, b, c, b0', b2, false, b3, b1⟩ _ (x5.same (s6.trans s7)) (x5.free (s6.free ht)) (x4.free np) (x5.free hs) upd_same ⟨dx, (s6.trans s7) _ _ ep⟩ (s7 _ _ upd_same) ⟨a0, b0, c0⟩
def spWish (C : Addr) : Sp := fun vs H Q _ => ∃ (W : Addr) (near : Int), vs = [.ref W, .int near] ∧ 0 ≤ near ∧ IsW H W ∧ ∀ t p m b w (ms : List Int) (x y : Int) H', Wx W H H' → H t = none → H p = none → H m = none → H b = none → H' t = some (.tup [.ref p, .ref m, .ref b]) → WishAt C H' p w → H' m = some (.lst (ms.map V.int)) → ms.length ≤ 1 → H' b = some (.lst [.int x, .int y]) → posW w → Q (.ref t) H'
theorem ok_law_wish (T : Txt K mg) : FnOk P w K mg base CX0 3 T.f_law_wish T.fd_law_wish ["_law_well_here", "_law_ahead"] (spWish T.C_Wish) := by
  refine T.d_law_wish.F.ok sc_law_wish (fun vs H Q E h => ?_) (fun cdv A outer s H vs Q E hr h => ?_)
  · obtain ⟨W, near, rfl, _⟩ := h
    rfl
  · obtain ⟨W, near, rfl, hn, hI, q⟩ := h
    refine ⟨_, (pss_cons (ps_set (i := 2) sc_law_wish.nd rfl (.inl rfl) (pe_call (ok_law_draw T) (hr.mono (by decide)) (by rfl) T.d_law_draw.g T.d_law_draw.F.kp T.d_law_draw.b .nil pass0 (pa_cons (pv 0) (pa_cons pe_int pa_nil))))
      (pss_cons (ps_set (i := 3) sc_law_wish.nd rfl (.inl rfl) (pe_call (ok_law_number T) (hr.mono (by decide)) (by rfl) T.d_law_number.g T.d_law_number.F.kp T.d_law_number.b .nil pass0 (pa_cons (pv 0) (pa_cons (pv 1) pa_nil))))
      (pss_cons (ps_set (i := 4) sc_law_wish.nd rfl (.inl rfl) (pe_op op_mul (pe_call (ok_law_number T) (hr.mono (by decide)) (by rfl) T.d_law_number.g T.d_law_number.F.kp T.d_law_number.b .nil pass0 (pa_cons (pv 0) (pa_cons pe_int pa_nil))) (pe_op op_fdiv (pe_call (ok_law_draw T) (hr.mono (by decide)) (by rfl) T.d_law_draw.g T.d_law_draw.F.kp T.d_law_draw.b .nil pass0 (pa_cons (pv 0) (pa_cons pe_int pa_nil))) pe_int)))
      (pss_cons (ps_set (i := 5) sc_law_wish.nd rfl (.inl rfl) (pe_call (ok_law_number T) (hr.mono (by decide)) (by rfl) T.d_law_number.g T.d_law_number.F.kp T.d_law_number.b .nil pass0 (pa_cons (pv 0) (pa_cons pe_int pa_nil))))
      (pss_cons (ps_setLc (i := 6) (own := [("_law_k", 7)]) (g := gName 7) (tt := tYes) (by rfl) sc_law_wish.nd rfl rfl (sw_true rfl rfl rfl (by decide +kernel)) (pi_range1 (by rfl) T.m_range (pa_cons pe_int pa_nil)) (blkOk_by (own := [("_law_k", 7)]) (N := ["_law_well_here", "_law_ahead", "_law_lot", "_law_a", "_law_b", "_law_c", "_law_truths", "_law_k"]) (sc := defScope s_law_wish) (by decide +kernel)) (fun _ _ _ _ _ => (pg_name (i := 7) sc_law_wish.nd rfl (Or.inl rfl))) (fun _ _ _ _ _ => pts_nil) (fun _ _ _ _ _ => (pe_cmpR op_eq (pe_call (ok_law_draw T) (hr.mono (by decide)) (by rfl) T.d_law_draw.g T.d_law_draw.F.kp T.d_law_draw.b .nil pass0 (pa_cons (pv 0) (pa_cons pe_int pa_nil))) pe_int (nomark _))))
      (pss_cons (ps_if (pt_cmpR op_gt (pv 2) pe_int (nomark _))
      (pss_one (ps_ret (pe_tup (pa_cons (pe_makeK0 T.mk_Wish (ok_Wish_init T) (hr.mono (by decide)) (by rfl) T.g_Wish T.kb_1.choose_spec pass0 (pk_cons (pv 4) (pk_cons (pv 5) (pk_cons (pe_ix ix_list (pv 6) pe_int (fun _ _ => rfl)) (pk_cons (pe_ix ix_list (pv 6) pe_int (fun _ _ => rfl)) (pk_cons (pe_ix ix_list (pv 6) pe_int (fun _ _ => rfl)) pk_nil)))))) (pa_cons (pe_lst pa_nil) (pa_cons (pe_lst (pa_cons (pv 4) (pa_cons (pv 5) pa_nil))) pa_nil))))))
      pss_nil)
      (pss_one (ps_ret (pe_tup (pa_cons (pe_makeK0 T.mk_Wish (ok_Wish_init T) (hr.mono (by decide)) (by rfl) T.g_Wish T.kb_2.choose_spec pass0 (pk_cons (pv 3) (pk_cons (pv 4) (pk_cons (pv 5) (pk_cons (pe_ix ix_list (pv 6) pe_int (fun _ _ => rfl)) (pk_cons (pe_ix ix_list (pv 6) pe_int (fun _ _ => rfl)) pk_nil)))))) (pa_cons (pe_lst (pa_cons (pe_op op_add (pv 3) pe_int) pa_nil)) (pa_cons (pe_lst (pa_cons (pv 4) (pa_cons (pv 5) pa_nil))) pa_nil)))))))))))), ?_⟩
    refine ⟨.ref W, rfl, W, 3, rfl, by decide, by decide, hI, fun lot H1 l0 l1 x1 => ?_⟩
    refine ⟨.ref W, rfl, _, rfl, W, near, rfl, hn, x1.well, fun a H2 a0 x2 => ?_⟩
    refine ⟨.ref W, rfl, W, 1, rfl, by decide, x2.well, fun b' H3 b0 x3 => ⟨.ref W, rfl, W, 4, rfl, by decide, by decide, x3.well, fun r8 H4 r80 r81 x4 => ⟨r8, 3, rfl, rfl, ⟨by decide, by decide⟩, b', _, rfl, rfl, .inr (by constructor <;> omega), ?_⟩⟩⟩
    have bb : 0 ≤ b' * (r8 / 3) := Int.mul_nonneg b0 (by omega)
    generalize hv : (fun i j : Int => V.int (i * j)) b' (r8 / 3) = vb
    obtain ⟨b, hb0, rfl⟩ : ∃ b : Int, 0 ≤ b ∧ vb = .int b := ⟨_, bb, hv.symm⟩
    refine ⟨.ref W, rfl, W, 2, rfl, by decide, x4.well, fun c H5 c0 x5 => ?_⟩
    have x15 := (((x1.trans x2).trans x3).trans x4).trans x5
    refine ⟨3, rfl, by decide, by decide, fun D hD => ?_⟩
    have nWD : W ≠ D := x5.well.ne hD
    have hD0 : H D = none := x15.free hD
    refine lc_range (lo := 0) (n := 3) (fun i H' => ∃ bs : List Bool, bs.length = i ∧ Wx W H H' ∧ H' D = some (.lst (bs.map V.bl))) ⟨[], rfl, x15.new hD, upd_same⟩ ?_ ?_
    · rintro i H' hi ⟨bs, bn, x, eD⟩
      refine ⟨rfl, .ref W, rfl, W, 9, rfl, by decide, by decide, x.well, fun r H5 r0 r1 x5 => ⟨rfl, _, x5.keep D _ nWD.symm eD, by rw [List.length_map]; exact szlt (by omega), bs ++ [decide (V.int r = V.int 0)], by rw [List.length_append, bn]; rfl, (x.trans x5).mut hD0 nWD, by rw [upd_same, List.map_append]; rfl⟩⟩
    rintro H6 ⟨bs, bn, x6, eD⟩
    obtain ⟨d0, d1, d2, rfl⟩ := threeB bn
    have i0 : atI ([d0, d1, d2].map V.bl) 0 = some (.bl d0) := rfl
    have i1 : atI ([d0, d1, d2].map V.bl) 1 = some (.bl d1) := rfl
    have i2 : atI ([d0, d1, d2].map V.bl) 2 = some (.bl d2) := rfl
    refine ⟨_, rfl, _, _, rfl, rfl, _, rfl, ite2 (fun e => ?_) (fun e => ?_)⟩
    · refine ⟨_, rfl, _, rfl, .ref D, rfl, D, _, 0, _, rfl, rfl, SqL.of eD, i0, .ref D, rfl, D, _, 1, _, rfl, rfl, SqL.of eD, i1, .ref D, rfl, D, _, 2, _, rfl, rfl, SqL.of eD, i2, rfl, rfl, fun p dx np ndx ndp => ⟨p, dx, ⟨none, b, c, d0, d2, d1⟩, rfl, upd_same, rfl, ?_⟩⟩
      rw [upd_upd]
      have s7 := (same_upd (o := .own p) ndx).trans (same_upd (o := .ins T.C_Wish dx (fW ⟨none, b, c, d0, d2, d1⟩)) (by rw [upd_ne ndp.symm]; exact np))
      have ep : (upd (upd H6 dx (.own p)) p (.ins T.C_Wish dx (fW ⟨none, b, c, d0, d2, d1⟩))) p = some (.ins T.C_Wish dx (fW ⟨none, b, c, d0, d2, d1⟩)) := upd_same
      generalize upd (upd H6 dx (.own p)) p (.ins T.C_Wish dx (fW ⟨none, b, c, d0, d2, d1⟩)) = H7 at *
      have x7 := x6.same s7
      refine ⟨Nat.zero_le _, fun m hm => ⟨_, rfl, _, rfl, (by show 2 ≤ sizeLine; decide), fun bb hbb => ⟨(by show 3 ≤ sizeLine; decide), fun t ht => ?_⟩⟩⟩
      have s8 := same_upd (o := .lst []) hm
      have s9 := same_upd (o := .lst [.int b, .int c]) hbb
      have s10 := same_upd (o := .tup [.ref p, .ref m, .ref bb]) ht
      have t10 := (s8.trans s9).trans s10
      exact q t p m bb ⟨none, b, c, d0, d2, d1⟩ [] b c _ (x7.same t10) (x7.free ((s8.trans s9).free ht)) (x6.free np) (x7.free hm) (x7.free (s8.free hbb)) upd_same ⟨dx, t10 _ _ ep⟩ ((s9.trans s10) _ _ upd_same) (Nat.zero_le _) (s10 _ _ upd_same) ⟨hb0, c0⟩
    · refine ⟨_, rfl, _, rfl, _, rfl, .ref D, rfl, D, _, 0, _, rfl, rfl, SqL.of eD, i0, .ref D, rfl, D, _, 1, _, rfl, rfl, SqL.of eD, i1, rfl, rfl, fun p dx np ndx ndp => ⟨p, dx, ⟨some a, b, c, d0, false, d1⟩, rfl, upd_same, rfl, ?_⟩⟩
      rw [upd_upd]
      have s7 := (same_upd (o := .own p) ndx).trans (same_upd (o := .ins T.C_Wish dx (fW ⟨some a, b, c, d0, false, d1⟩)) (by rw [upd_ne ndp.symm]; exact np))
      have ep : (upd (upd H6 dx (.own p)) p (.ins T.C_Wish dx (fW ⟨some a, b, c, d0, false, d1⟩))) p = some (.ins T.C_Wish dx (fW ⟨some a, b, c, d0, false, d1⟩)) := upd_same
      generalize upd (upd H6 dx (.own p)) p (.ins T.C_Wish dx (fW ⟨some a, b, c, d0, false, d1⟩)) = H7 at *
      have x7 := x6.same s7
      refine ⟨_, rfl, _, _, rfl, rfl, (by show 1 ≤ sizeLine; decide), fun m hm => ⟨_, rfl, _, rfl, (by show 2 ≤ sizeLine; decide), fun bb hbb => ⟨(by show 3 ≤ sizeLine; decide), fun t ht => ?_⟩⟩⟩
      have s8 := same_upd (o := .lst (([a + 1] : List Int).map V.int)) hm
      have s9 := same_upd (o := .lst [.int b, .int c]) hbb
      have s10 := same_upd (o := .tup [.ref p, .ref m, .ref bb]) ht
      have t10 := (s8.trans s9).trans s10
      exact q t p m bb ⟨some a, b, c, d0, false, d1⟩ [a + 1] b c _ (x7.same t10) (x7.free ((s8.trans s9).free ht)) (x6.free np) (x7.free hm) (x7.free (s8.free hbb)) upd_same ⟨dx, t10 _ _ ep⟩ ((s9.trans s10) _ _ upd_same) (Nat.le_refl 1) (s10 _ _ upd_same) ⟨hb0, c0⟩
end
end My
namespace My
open PySem PySem.Spec PyProof.Rows L2 TL
section
variable {P : Program} {w : World} {K : PySem.W.Frag} {mg : Str → Option Value} {base : Heap}
theorem k0 {H H' : Hp} (s : Same H H') : Kp [] H H' := Kp.same s fun _ z => nomatch z
theorem paired_at {α β : Type} {R : α → β → Prop} : ∀ {a : List α} {b : List β} {i : Nat} {x : α}, Paired R a b → a[i]? = some x → ∃ y, b[i]? = some y ∧ R x y
  | _, _, _, _, .nil, h => by simp at h
  | _, _, 0, _, .cons r t, h => by
    cases h
    exact ⟨_, rfl, r⟩
  | _, _, n + 1, _, .cons r t, h => by
    obtain ⟨y, h1, h2⟩ := paired_at (i := n) t h
    exact ⟨y, h1, h2⟩
theorem sort_ints (as : List Int) : (sortB (fun i : Int => PyData.int i) as).Pairwise (· ≤ ·) := by
  refine List.Pairwise.imp ?_ (sortB_sorted (fun i : Int => PyData.int i) as)
  intro a b h
  have h' : (!PySem.W.dataLt (.int b) (.int a)) = true := h
  rw [PySem.W.dataLt_int] at h'
  simpa using h'
def spAges (C D : Addr) : Sp := fun vs H Q _ => ∃ (a b : Addr) (xs ys : List V) (rs : List RuleR) (ws : List WishR), vs = [.ref a, .ref b] ∧ H a = some (.lst xs) ∧ Paired (RRow C [] H) xs rs ∧ H b = some (.lst ys) ∧ Paired (WRow D [] H) ys ws ∧ rs.length ≤ 10 ∧ ws.length ≤ 10 ∧
  ∀ p (as : List Int) H', Same H H' → H' p = some (.lst (as.map V.int)) → as.Pairwise (· ≤ ·) → (∀ x ∈ as, 0 ≤ x) → as.length ≤ 1000 → Q (.ref p) H'
theorem ok_law_ages (T : Txt K mg) : FnOk P w K mg base CX0 1 T.f_law_ages T.fd_law_ages ["_law_rule_rows", "_law_wish_rows"] (spAges T.C_Rule T.C_Wish) := by
  refine T.d_law_ages.F.ok sc_law_ages (fun vs H Q E h => ?_) (fun cdv A outer s H vs Q E hr h => ?_)
  · obtain ⟨a, b, xs, ys, rs, ws, rfl, _⟩ := h
    rfl
  · obtain ⟨a, b, xs, ys, rs, ws, rfl, ha, hx, hb, hy, lr, lw, q⟩ := h
    refine ⟨_, (pss_cons (ps_set (i := 2) sc_law_ages.nd rfl (.inl rfl) (pe_lst pa_nil))
      (pss_cons (ps_for PassesOwn.never rfl (pi_list (pv 0)) (pg_tup rfl (pgs_cons (pg_name (i := 3) sc_law_ages.nd rfl (.inl rfl)) (pgs_cons (pg_name (i := 4) sc_law_ages.nd rfl (.inl rfl)) pgs_nil)))
      (pss_cons (ps_set (i := 2) sc_law_ages.nd rfl (.inl rfl) (pe_op op_cat (pv 2) (pv 4)))
      (pss_one (ps_for PassesOwn.never rfl (pi_list (pv 1)) (pg_tup rfl (pgs_cons (pg_name (i := 5) sc_law_ages.nd rfl (.inl rfl)) (pgs_cons (pg_name (i := 6) sc_law_ages.nd rfl (.inl rfl)) (pgs_cons (pg_name (i := 7) sc_law_ages.nd rfl (.inl rfl)) pgs_nil))))
      (pss_one (ps_set (i := 2) sc_law_ages.nd rfl (.inl rfl) (pe_op op_cat (pv 2) (pe_lst (pa_cons (pe_op op_sub (pe_ix ix_list (pv 4) pe_int (fun _ _ => rfl)) (pe_ix ix_list (pv 7) pe_int (fun _ _ => rfl))) (pa_cons (pe_op op_add (pe_ix ix_list (pv 4) pe_int (fun _ _ => rfl)) (pe_ix ix_list (pv 7) pe_int (fun _ _ => rfl))) pa_nil))))))))))
      (pss_cons (ps_for PassesOwn.never rfl (pi_list (pv 1)) (pg_tup rfl (pgs_cons (pg_name (i := 5) sc_law_ages.nd rfl (.inl rfl)) (pgs_cons (pg_name (i := 6) sc_law_ages.nd rfl (.inl rfl)) (pgs_cons (pg_name (i := 7) sc_law_ages.nd rfl (.inl rfl)) pgs_nil))))
      (pss_one (ps_set (i := 2) sc_law_ages.nd rfl (.inl rfl) (pe_op op_cat (pv 2) (pv 6)))))
      (pss_cons (ps_set (i := 8) sc_law_ages.nd rfl (.inr rfl) (pe_lst (pa_cons pe_int (pa_cons pe_int pa_nil))))
      (pss_cons (ps_for PassesOwn.never rfl (pi_list (pv 2)) (pg_name (i := 9) sc_law_ages.nd rfl (.inl rfl))
      (pss_one (ps_set (i := 8) sc_law_ages.nd rfl (.inr rfl) (pe_op op_cat (pv 8) (pe_lc (own := [("_law_age", 10)]) (g := gName 10) (tt := tPureT (tAnd (tTest (tOp (rI0 fun i j => .bl (decide (j ≤ i))) (tVar 10) (tC (.int 0)))) (tTest (tOp (rIn K true) (tVar 10) (tVar 8))))) (by rfl) sc_law_ages.nd (pi_list (pe_lst (pa_cons (pe_op op_sub (pv 9) pe_int) (pa_cons (pv 9) pa_nil)))) (blkOk_by (own := [("_law_age", 10)]) (N := ["_law_rule_rows", "_law_wish_rows", "_law_ends", "_law_made", "_law_sums", "_law_wish_here", "_law_more", "_law_parts", "_law_found", "_law_end", "_law_age"]) (sc := defScope s_law_ages) (by decide +kernel)) (fun _ _ _ _ _ => (pg_name (i := 10) sc_law_ages.nd rfl (Or.inl rfl))) (fun _ _ _ _ _ => (pts_one (pt_pure (PW.pt (pw_and (pt_cmpR op_ge (pv 10) pe_int (nomark _)) (pw_and1 (pt_cmpR op_notIn_seq (pv 10) (pv 8) rfl))))))) (fun _ _ _ _ _ => (pv 10)))))))
      (pss_one (ps_ret (pe_callB (cr_sortB (fun i : Int => V.int i) (fun i => .int i) hr.units) (by rfl) T.m_sorted (by decide +kernel) (pa_cons (pv 8) pa_nil))))))))), ?_⟩
    have lx : xs.length = rs.length := Paired.length hx
    have ly : ys.length = ws.length := Paired.length hy
    refine ⟨Nat.zero_le _, fun p0 h0 => ?_⟩
    have s0 := same_upd (o := .lst []) h0
    refine ⟨.ref a, rfl, a, rfl, ⟨_, SqL.of (s0 _ _ ha)⟩, for_list (K := K) (a := a) (xs := xs) (fun i σ H' => Same H H' ∧ ∃ (pe : Addr) (es : List Int) (y3 y4 y5 y6 y7 : Option V), H' pe = some (.lst (es.map V.int)) ∧ es.length ≤ 23 * i ∧ σ = [some (.ref a), some (.ref b), some (.ref pe), y3, y4, y5, y6, y7, none, none, none])
      ⟨s0, p0, [], none, none, none, none, none, upd_same, Nat.zero_le _, rfl⟩ (fun i σ H' _ pv => SqL.of (pv.1 _ _ ha)) ?_ ?_⟩
    · rintro i x σ H1 hi ⟨s1, pe, es, y3, y4, y5, y6, y7, epe, les, rfl⟩
      obtain ⟨r, hr', row⟩ := paired_at hx hi
      have hil : i < xs.length := (List.getElem?_eq_some_iff.mp hi).1
      obtain ⟨t, p, s, rfl, ht, hp, hs, _, pr⟩ := row.mono (k0 s1)
      refine ⟨t, _, rfl, SqT.of ht, rfl, _, _, rfl, _, _, rfl, rfl, ?_⟩
      refine ⟨.ref pe, rfl, .ref s, rfl, pe, s, _, _, rfl, rfl, epe, hs, by rw [List.length_map]; exact szl (by show es.length + 3 ≤ _; omega), fun p2 h2 => ?_⟩
      have s2 := same_upd (o := .lst (es.map V.int ++ [.int r.keep, .int (r.keep + r.worn), .int (r.keep + r.alone)])) h2
      have e2 : (upd H1 p2 (.lst (es.map V.int ++ [.int r.keep, .int (r.keep + r.worn), .int (r.keep + r.alone)]))) p2 = some (.lst ((es ++ [r.keep, r.keep + r.worn, r.keep + r.alone]).map V.int)) := by
        rw [upd_same, List.map_append]
        rfl
      have t2 := s1.trans s2
      refine ⟨.ref b, rfl, b, rfl, ⟨_, SqL.of (t2 _ _ hb)⟩, for_list (K := K) (a := b) (xs := ys) (fun j σ H' => Same H H' ∧ H' s = some (.lst [.int r.keep, .int (r.keep + r.worn), .int (r.keep + r.alone)]) ∧ ∃ (pf : Addr) (fs : List Int) (y5 y6 y7 : Option V), H' pf = some (.lst (fs.map V.int)) ∧ fs.length ≤ 23 * i + 3 + 2 * j ∧ σ = [some (.ref a), some (.ref b), some (.ref pf), some (.ref p), some (.ref s), y5, y6, y7, none, none, none])
        ⟨t2, s2 _ _ hs, p2, _, y5, y6, y7, e2, by rw [List.length_append]; show es.length + 3 ≤ _; omega, rfl⟩ (fun j σ H' _ pv => SqL.of (pv.1 _ _ hb)) ?_ ?_⟩
      · rintro j v σ H3 hj ⟨s3, hs3, pf, fs, z5, z6, z7, epf, lfs, rfl⟩
        obtain ⟨wi, hw', wrow⟩ := paired_at hy hj
        have hjl : j < ys.length := (List.getElem?_eq_some_iff.mp hj).1
        obtain ⟨t, p', m, bb, mms, x', y', rfl, ht, hp', hm, lm, hbb, _⟩ := wrow.mono (k0 s3)
        have j0 : atI [V.int r.keep, .int (r.keep + r.worn), .int (r.keep + r.alone)] 0 = some (.int r.keep) := rfl
        have l0 : atI [V.int x', .int y'] 0 = some (.int x') := rfl
        have l1 : atI [V.int x', .int y'] 1 = some (.int y') := rfl
        refine ⟨t, _, rfl, SqT.of ht, rfl, _, _, rfl, _, _, rfl, _, _, rfl, rfl, ?_⟩
        refine ⟨.ref pf, rfl, .ref s, rfl, s, _, 0, _, rfl, rfl, SqL.of hs3, j0, .ref bb, rfl, bb, _, 0, _, rfl, rfl, SqL.of hbb, l0, _, _, rfl, rfl, .ref s, rfl, s, _, 0, _, rfl, rfl, SqL.of hs3, j0, .ref bb, rfl, bb, _, 1, _, rfl, rfl, SqL.of hbb, l1, _, _, rfl, rfl, (by show 2 ≤ sizeLine; decide), fun p4 h4 => ?_⟩
        have s4 := same_upd (o := .lst (([r.keep - x', r.keep + y'] : List Int).map V.int)) h4
        refine ⟨pf, p4, _, _, rfl, rfl, s4 _ _ epf, upd_same, by rw [List.length_map]; exact szl (by show fs.length + 2 ≤ _; omega), fun p5 h5 => ?_⟩
        have s5 := same_upd (o := .lst (fs.map V.int ++ ([r.keep - x', r.keep + y'] : List Int).map V.int)) h5
        have s45 := s4.trans s5
        exact ⟨s3.trans s45, s45 _ _ hs3, p5, fs ++ [r.keep - x', r.keep + y'], _, _, _, by rw [List.map_append]; exact upd_same, by rw [List.length_append]; show fs.length + 2 ≤ _; omega, rfl⟩
      · rintro σ H3 ⟨s3, hs3, pf, fs, z5, z6, z7, epf, lfs, rfl⟩
        exact ⟨s3, pf, fs, _, _, _, _, _, epf, by omega, rfl⟩
    · rintro σ H1 ⟨s1, pe, es, y3, y4, y5, y6, y7, epe, les, rfl⟩
      rw [lx] at les
      refine ⟨.ref b, rfl, b, rfl, ⟨_, SqL.of (s1 _ _ hb)⟩, for_list (K := K) (a := b) (xs := ys) (fun j σ H' => Same H H' ∧ ∃ (pf : Addr) (fs : List Int) (y5 y6 y7 : Option V), H' pf = some (.lst (fs.map V.int)) ∧ fs.length ≤ 230 + j ∧ σ = [some (.ref a), some (.ref b), some (.ref pf), y3, y4, y5, y6, y7, none, none, none])
        ⟨s1, pe, es, y5, y6, y7, epe, by omega, rfl⟩ (fun j σ H' _ pv => SqL.of (pv.1 _ _ hb)) ?_ ?_⟩
      · rintro j v σ H3 hj ⟨s3, pf, fs, z5, z6, z7, epf, lfs, rfl⟩
        obtain ⟨wi, hw', wrow⟩ := paired_at hy hj
        have hjl : j < ys.length := (List.getElem?_eq_some_iff.mp hj).1
        obtain ⟨t, p', m, bb, mms, x', y', rfl, ht, hp', hm, lm, hbb, _⟩ := wrow.mono (k0 s3)
        refine ⟨t, _, rfl, SqT.of ht, rfl, _, _, rfl, _, _, rfl, _, _, rfl, rfl, ?_⟩
        refine ⟨.ref pf, rfl, .ref m, rfl, pf, m, _, _, rfl, rfl, epf, hm, by rw [List.length_map, List.length_map]; exact szl (by omega), fun p4 h4 => ?_⟩
        have s4 := same_upd (o := .lst (fs.map V.int ++ mms.map V.int)) h4
        exact ⟨s3.trans s4, p4, fs ++ mms, _, _, _, by rw [List.map_append]; exact upd_same, by rw [List.length_append]; omega, rfl⟩
      · rintro σ H3 ⟨s3, pf, fs, z5, z6, z7, epf, lfs, rfl⟩
        refine ⟨(by show 2 ≤ sizeLine; decide), fun p4 h4 => ?_⟩
        have s4 := same_upd (o := .lst (([0, 20] : List Int).map V.int)) h4
        have t4 := s3.trans s4
        have epf4 := s4 _ _ epf
        refine ⟨.ref pf, rfl, pf, rfl, ⟨_, SqL.of epf4⟩, for_list (K := K) (a := pf) (xs := fs.map V.int) (fun i σ H' => Same H H' ∧ H' pf = some (.lst (fs.map V.int)) ∧ ∃ (pg : Addr) (as : List Int) (y9 : Option V), H' pg = some (.lst (as.map V.int)) ∧ as.length ≤ 2 + 2 * i ∧ (∀ x ∈ as, 0 ≤ x) ∧ σ = [some (.ref a), some (.ref b), some (.ref pf), y3, y4, z5, z6, z7, some (.ref pg), y9, none])
          ⟨t4, epf4, p4, [0, 20], none, upd_same, Nat.le_refl _, by decide, rfl⟩ (fun i σ H' _ pv => SqL.of pv.2.1) ?_ ?_⟩
        · rintro i v σ H5 hi ⟨s5, ef5, pg, as, y9, eg, la, has, rfl⟩
          obtain ⟨e, rfl⟩ := int_at hi
          have hil : i < fs.length := by
            have := (List.getElem?_eq_some_iff.mp hi).1
            rwa [List.length_map] at this
          rw [ly] at lfs
          refine ⟨.ref pg, rfl, .int e, rfl, e, 1, rfl, rfl, .int e, rfl, (by show 2 ≤ sizeLine; decide), fun l hl => ?_⟩
          have s6 := same_upd (o := .lst (([e - 1, e] : List Int).map V.int)) hl
          refine ⟨l, rfl, ⟨_, SqL.of upd_same⟩, fun D hD => ?_⟩
          refine lc_list (K := K) (a := l) (xs := ([e - 1, e] : List Int).map V.int) (fun j H' => Same (upd H5 l (.lst (([e - 1, e] : List Int).map V.int))) H' ∧ ∃ zs : List Int, H' D = some (.lst (zs.map V.int)) ∧ zs.length ≤ j ∧ ∀ a ∈ zs, 0 ≤ a) ⟨same_upd hD, [], upd_same, Nat.le_refl _, fun _ z => nomatch z⟩ (fun j H' _ pv => SqL.of (pv.1 _ _ upd_same)) ?_ ?_
          · rintro j v H7 hj ⟨s7, zs, eD, lz, hz⟩
            obtain ⟨n, rfl⟩ := int_at hj
            have hjl : j < 2 := (List.getElem?_eq_some_iff.mp hj).1
            have egs := (s6.trans s7) _ _ eg
            have fl : (as.map V.int).all flatV = true := by
              rw [List.all_map, List.all_eq_true]
              intro x _
              rfl
            refine ⟨rfl, (decide (0 ≤ n) && !inV (.int n) (as.map V.int)), ?_, ite2 (fun en => ?_) (fun _ => ?_)⟩
            · refine ⟨.int n, rfl, n, 0, rfl, rfl, _, rfl, ite2 (fun e1 => ?_) (fun e1 => ?_)⟩
              · refine ⟨.int n, rfl, _, rfl, pg, _, rfl, .inl (SqL.of egs), rfl, fl, _, rfl, ?_, rfl⟩
                rw [show decide (0 ≤ n) = true from e1]
                rfl
              · exact ⟨by rw [show decide (0 ≤ n) = false by simpa using e1]; rfl, rfl⟩
            · simp only [Bool.and_eq_true, decide_eq_true_eq] at en
              refine ⟨.int n, rfl, _, eD, by rw [List.length_map]; exact szlt (by omega), same_mut s7 hD, zs ++ [n], by rw [upd_same, List.map_append]; rfl, by rw [List.length_append]; show _ + 1 ≤ _; omega, fun a ha' => ?_⟩
              rcases List.mem_append.mp ha' with h | h
              · exact hz a h
              · rw [List.mem_singleton.mp h]
                exact en.1
            · exact ⟨s7, zs, eD, by omega, hz⟩
          · rintro H7 ⟨s7, zs, eD, lz, hz⟩
            have lz2 : zs.length ≤ 2 := lz
            have t7 := s6.trans s7
            refine ⟨pg, D, _, _, rfl, rfl, t7 _ _ eg, eD, by rw [List.length_map, List.length_map]; exact szl (by omega), fun p10 h10 => ?_⟩
            have s10 := same_upd (o := .lst (as.map V.int ++ zs.map V.int)) h10
            have t10 := t7.trans s10
            refine ⟨s5.trans t10, t10 _ _ ef5, p10, as ++ zs, _, by rw [upd_same, List.map_append], by rw [List.length_append]; omega, fun a ha' => ?_, rfl⟩
            rcases List.mem_append.mp ha' with h | h
            · exact has a h
            · exact hz a h
        · rintro σ H5 ⟨s5, ef5, pg, as, y9, eg, la, has, rfl⟩
          rw [List.length_map] at la
          rw [ly] at lfs
          refine ⟨.ref pg, rfl, pg, as, rfl, SqL.of eg, fun x _ => .int x, ?_, ?_, fun x _ => by simp [PyData.depth], fun p hp => ?_⟩
          · exact PySem.W.AllAlike.of (fun b b' => by simp [PySem.W.alike])
          · refine .inr fun d hd => ?_
            obtain ⟨n, _, rfl⟩ := List.mem_map.mp hd
            exact ⟨(fun z => by cases z), (fun _ z => by cases z)⟩
          · have hperm := sortB_perm (fun i : Int => PyData.int i) as
            exact q p (sortB (fun i : Int => PyData.int i) as) _ (s5.trans (same_upd hp)) upd_same (sort_ints as) (fun x hx => has x (hperm.mem_iff.mp hx)) (by rw [hperm.length_eq]; omega)
end
end My
namespace My
open PySem PySem.Spec PyProof.Rows L2 TL
section
variable {P : Program} {w : World} {K : PySem.W.Frag} {mg : Str → Option Value} {base : Heap}
theorem cutV_ex {α : Type} (f : α → V) (ns : List α) (lo hi : Option Int) : cutV (ns.map f) lo hi = ((ns.drop (HT.sIx ns.length 0 lo)).take (HT.sIx ns.length ns.length hi - HT.sIx ns.length 0 lo)).map f := by
  unfold cutV
  rw [List.length_map, List.map_take, List.map_drop]
theorem inV_bools (x : Bool) (F : List Bool) : inV (.bl x) (F.map V.bl) = decide (x ∈ F) := by
  unfold inV
  rw [List.any_map, Bool.eq_iff_iff, List.any_eq_true, decide_eq_true_iff]
  constructor
  · rintro ⟨y, hy, e⟩
    have e' : y = x := by
      revert e
      cases y <;> cases x <;> decide
    rw [← e']
    exact hy
  · intro h
    refine ⟨x, h, ?_⟩
    cases x <;> decide
theorem flat_bools (F : List Bool) : (F.map V.bl).all flatV = true := by
  rw [List.all_map, List.all_eq_true]
  intro x _
  rfl
def spFalls (C D : Addr) : Sp := fun vs H Q _ => ∃ (p q a : Addr) (r : RuleR) (w : WishR) (as : List Int), vs = [.ref p, .ref q, .ref a] ∧ RuleAt C H p r ∧ WishAt D H q w ∧ posW w ∧ H a = some (.lst (as.map V.int)) ∧ as.Pairwise (· ≤ ·) ∧ (∀ x ∈ as, 0 ≤ x) ∧ as.length ≤ 1000 ∧ ∀ H', Same H H' → Q (.bl true) H'
theorem ok_law_falls (T : Txt K mg) : FnOk P w K mg base CX0 3 T.f_law_falls T.fd_law_falls ["_law_rule_here", "_law_wish_here", "_law_ages_here"] (spFalls T.C_Rule T.C_Wish) := by
  refine T.d_law_falls.F.ok sc_law_falls (fun vs H Q E h => ?_) (fun cdv A outer s H vs Q E hr h => ?_)
  · obtain ⟨p, q, a, r, w, as, rfl, _⟩ := h
    rfl
  · obtain ⟨p, q, a, r, wi, as, rfl, hp, hq, pw, ha, sa, a0, la, k⟩ := h
    refine ⟨_, (pss_cons (ps_for PassesOwn.never rfl (pi_list (pe_lst (pa_cons pe_bl (pa_cons pe_bl pa_nil)))) (pg_name (i := 3) sc_law_falls.nd rfl (.inr rfl))
      (pss_cons (ps_setLc (i := 4) (own := [("_law_age", 5)]) (g := gName 5) (tt := tYes) (by rfl) sc_law_falls.nd rfl rfl (sw_true rfl rfl rfl (by decide +kernel)) (pi_list (pv 2)) (blkOk_by (own := [("_law_age", 5)]) (N := ["_law_rule_here", "_law_wish_here", "_law_ages_here", "_law_late", "_law_found", "_law_age"]) (sc := defScope s_law_falls) (by decide +kernel)) (fun _ _ _ _ _ => (pg_name (i := 5) sc_law_falls.nd rfl (Or.inl rfl))) (fun _ _ _ _ _ => pts_nil) (fun _ _ _ _ _ => (pe_callN (ok_serves T) (hr.mono (by decide)) (by rfl) T.d_serves.g T.d_serves.F.kp T.kb_3.choose_spec pass0 (pa_cons (pv 0) (pa_cons (pv 1) (pa_cons (pv 5) pa_nil))) (pk_cons (pv 3) pk_nil))))
      (pss_one (ps_if (pt_mid (PW.pt (pw_and (pt_cmpR op_in_seq pe_bl (pv 4) rfl) (pw_and1 (pt_cmpR op_in_seq pe_bl (pe_slice sl_list (pv 4) (po_some (pe_bm PySem.F.plainAttrs_list PySem.F.slot_list_index PySem.F.type_list_index mt_index (pv 4) (pa_cons pe_bl pa_nil))) po_none) rfl)))))
      (pss_one (ps_ret pe_bl))
      pss_nil))))
      (pss_one (ps_ret pe_bl))), ?_⟩
    refine ⟨(by show 2 ≤ sizeLine; decide), fun l hl => ?_⟩
    have sl := same_upd (o := .lst (([false, true] : List Bool).map V.bl)) hl
    have el : (upd H l (.lst (([false, true] : List Bool).map V.bl))) l = some (.lst (([false, true] : List Bool).map V.bl)) := upd_same
    refine ⟨l, rfl, ⟨_, SqL.of el⟩, for_list (K := K) (a := l) (xs := ([false, true] : List Bool).map V.bl) (fun i σ H' => Same (upd H l (.lst (([false, true] : List Bool).map V.bl))) H' ∧ ∃ y3 y4, σ = [some (.ref p), some (.ref q), some (.ref a), y3, y4, none])
      ⟨Same.refl _, none, none, rfl⟩ (fun i σ H' _ pv => SqL.of (pv.1 _ _ el)) ?_ ?_⟩
    · rintro i v σ H1 hi ⟨s1, y3, y4, rfl⟩
      obtain ⟨late, _, rfl⟩ := List.mem_map.mp (List.mem_of_getElem? hi)
      have t1' := sl.trans s1
      have ha1 := t1' _ _ ha
      refine ⟨.ref a, rfl, a, rfl, ⟨_, SqL.of ha1⟩, fun D hD => ?_⟩
      refine lc_list (K := K) (a := a) (xs := as.map V.int) (fun i H' => Same H1 H' ∧ H' D = some (.lst (((as.take i).map fun x => servB r wi x late).map V.bl))) ⟨same_upd hD, upd_same⟩ (fun i H' _ pv => SqL.of (pv.1 _ _ ha1)) ?_ ?_
      · rintro i x H2 hi ⟨s2, eD⟩
        rw [List.getElem?_map] at hi
        cases hk : as[i]? with
        | none =>
          rw [hk] at hi
          cases hi
        | some n =>
          rw [hk] at hi
          cases hi
          have t2 := t1'.trans s2
          refine ⟨rfl, .ref p, rfl, .ref q, rfl, .int n, rfl, .bl late, rfl, rfl, rfl, p, q, r, wi, n, late, rfl, hp.mono t2, hq.mono t2, _, eD, ?_, same_mut s2 hD, ?_⟩
          · rw [List.length_map, List.length_map, List.length_take]
            exact szlt (by omega)
          · rw [upd_same, take_map _ hk, List.map_append]
            rfl
      · rintro H2 ⟨s2, eD⟩
        rw [List.length_map, List.take_length] at eD
        refine ⟨fun b H' => b = false ∧ Same H2 H', ?_, fun b H' hb => ?_⟩
        · refine ⟨.ref D, rfl, D, _, rfl, .inl (SqL.of eD), rfl, flat_bools _, _, rfl, ?_⟩
          show if inV (.bl false) ((as.map fun x => servB r wi x late).map V.bl) = true then _ else _
          rw [inV_bools]
          refine ite2 (fun e => ?_) (fun e => ?_)
          · have hin : false ∈ as.map fun x => servB r wi x late := of_decide_eq_true e
            generalize hbs : (as.map fun x => servB r wi x late) = bs at *
            have hl' : bs.findIdx (fun b => !b) < bs.length := List.findIdx_lt_length_of_exists ⟨false, hin, rfl⟩
            have hg := List.findIdx_getElem (w := hl')
            have hj : (bs.map V.bl)[bs.findIdx (fun b => !b)]? = some (.bl false) := by
              rw [List.getElem?_map, List.getElem?_eq_getElem hl']
              have : bs[bs.findIdx (fun b => !b)] = false := by simpa using hg
              rw [this]
              rfl
            refine ⟨.ref D, rfl, .ref D, rfl, .inl ⟨rfl, _, SqL.of eD⟩, D, _, .bl false, bs.findIdx (fun b => !b), .bl false, rfl, rfl, SqL.of eD, rfl, flat_bools _, hj, rfl, ?_, _, rfl, D, _, rfl, SqL.of eD, fun c hc => ?_⟩
            · intro m z' hm hz
              rw [List.getElem?_map, List.getElem?_eq_getElem (Nat.lt_trans hm hl')] at hz
              have := List.not_of_lt_findIdx hm
              cases hz
              have e' : bs[m] = true := by simpa using this
              rw [e']
              rfl
            · have s3 := same_upd (o := .lst (cutV (bs.map V.bl) (some ((bs.findIdx (fun b => !b) : Nat) : Int)) none)) hc
              have ec : cutV (bs.map V.bl) (some ((bs.findIdx (fun b => !b) : Nat) : Int)) none = (bs.drop (bs.findIdx (fun b => !b))).map V.bl := by
                rw [cutV_ex, HT.sIx_nat, Nat.min_eq_left (Nat.le_of_lt hl')]
                show ((bs.drop _).take (bs.length - _)).map V.bl = _
                rw [List.take_of_length_le (by rw [List.length_drop]; exact Nat.le_refl _)]
              rw [ec] at s3 ⊢
              refine ⟨c, _, rfl, .inl (SqL.of upd_same), rfl, flat_bools _, _, rfl, ?_, s3⟩
              show inV (.bl true) ((bs.drop (bs.findIdx (fun b => !b))).map V.bl) = false
              rw [inV_bools, decide_eq_false_iff_not]
              intro hin2
              obtain ⟨n, hn⟩ := List.mem_iff_getElem?.mp hin2
              rw [List.getElem?_drop] at hn
              have hb1 : bs[bs.findIdx (fun b => !b)]? = some false := by
                rw [List.getElem?_eq_getElem hl']
                have : bs[bs.findIdx (fun b => !b)] = false := by simpa using hg
                rw [this]
              generalize bs.findIdx (fun b => !b) = j at *
              rw [← hbs, List.getElem?_map] at hn hb1
              cases h1 : as[j]? with
              | none =>
                rw [h1] at hb1
                cases hb1
              | some x =>
                cases h2 : as[j + n]? with
                | none =>
                  rw [h2] at hn
                  cases hn
                | some y =>
                  rw [h1] at hb1
                  rw [h2] at hn
                  have e1 : servB r wi x late = false := Option.some.inj hb1
                  have e2 : servB r wi y late = true := Option.some.inj hn
                  rw [serv_all _ _ _ (a0 x (List.mem_of_getElem? h1)) pw.left pw.worn, decide_eq_false_iff_not] at e1
                  rw [serv_all _ _ _ (a0 y (List.mem_of_getElem? h2)) pw.left pw.worn, decide_eq_true_iff] at e2
                  have hxy : x ≤ y := by
                    by_cases n0 : n = 0
                    · rw [n0, Nat.add_zero, h1] at h2
                      cases h2
                      exact Int.le_refl _
                    · obtain ⟨i1, g1⟩ := List.getElem?_eq_some_iff.mp h1
                      obtain ⟨i2, g2⟩ := List.getElem?_eq_some_iff.mp h2
                      rw [← g1, ← g2]
                      exact List.pairwise_iff_getElem.mp sa j (j + n) i1 i2 (by omega)
                  omega
          · exact ⟨rfl, Same.refl _⟩
        · obtain ⟨rfl, s3⟩ := hb
          exact ⟨s1.trans (s2.trans s3), _, _, rfl⟩
    · rintro σ H1 ⟨s1, y3, y4, rfl⟩
      exact k H1 (sl.trans s1)
end
end My
namespace My
open PySem PySem.Spec PyProof.Rows L2 TL
section
variable {P : Program} {w : World} {K : PySem.W.Frag} {mg : Str → Option Value} {base : Heap}
theorem fr_mono {R r : RuleR} {W w : WishR} (h : leR R r) (k : leW W w) {age : Int} (f : frB R W age) : frB r w age := by
  obtain ⟨f1, f2, f3, f4⟩ := f
  refine ⟨?_, ?_, fun m e => ?_, ?_⟩
  · cases hc : r.anew with
    | false => rfl
    | true =>
      rw [h.anew hc] at f1
      cases f1
  · cases hc : w.anew with
    | false => rfl
    | true =>
      rw [k.anew hc] at f2
      cases f2
  · obtain ⟨M, h1, h2⟩ := k.atmost m e
    exact Int.le_trans (f3 M h1) h2
  · have := h.keep
    have := k.left
    omega
def RV (C : Addr) (H : Hp) (v : V) (r : RuleR) : Prop := ∃ x, v = .ref x ∧ RuleAt C H x r
def WV (C : Addr) (H : Hp) (v : V) (r : WishR) : Prop := ∃ x, v = .ref x ∧ WishAt C H x r
theorem rvs_mono {C : Addr} {H H' : Hp} {xs : List V} {rs : List RuleR} (s : Same H H') (h : Paired (RV C H) xs rs) : Paired (RV C H') xs rs := Paired.mono (fun _ _ ⟨x, e, h⟩ => ⟨x, e, h.mono s⟩) h
theorem wvs_mono {C : Addr} {H H' : Hp} {xs : List V} {rs : List WishR} (s : Same H H') (h : Paired (WV C H) xs rs) : Paired (WV C H') xs rs := Paired.mono (fun _ _ ⟨x, e, h⟩ => ⟨x, e, h.mono s⟩) h
def wl (rs : List RuleR) (ws : List WishR) (age : Int) : List Str := rs.flatMap fun r => ws.map fun w => letW r w age
theorem wl_len (ws : List WishR) (age : Int) : ∀ rs : List RuleR, (wl rs ws age).length = rs.length * ws.length
  | [] => by
    show 0 = 0 * ws.length
    rw [Nat.zero_mul]
  | r :: t => by
    have := wl_len ws age t
    show ((ws.map fun w => letW r w age) ++ wl t ws age).length = (t.length + 1) * ws.length
    rw [List.length_append, List.length_map, this, Nat.add_mul]
    omega
def spUnder (C D : Addr) : Sp := fun vs H Q _ => ∃ (p q a b : Addr) (age : Int) (ev : Bool) (R : RuleR) (W : WishR) (xs ys : List V) (rs : List RuleR) (ws : List WishR), vs = [.ref p, .ref q, .ref a, .ref b, .int age, .bl ev] ∧ RuleAt C H p R ∧ WishAt D H q W ∧ H a = some (.lst xs) ∧ Paired (RV C H) xs rs ∧ H b = some (.lst ys) ∧ Paired (WV D H) ys ws ∧
  rs.length ≤ 10 ∧ ws.length ≤ 10 ∧ (∀ r ∈ rs, leR R r) ∧ (∀ w ∈ ws, leW W w) ∧ posW W ∧ (∀ w ∈ ws, posW w) ∧ 0 ≤ age ∧ (ev = true → (∀ r ∈ rs, ∀ w ∈ ws, frB r w age) → frB R W age) ∧ ∀ H', Same H H' → Q (.bl true) H'
theorem ok_law_under (T : Txt K mg) : FnOk P w K mg base CX0 3 T.f_law_under T.fd_law_under ["_law_rule_here", "_law_wish_here", "_law_rules", "_law_wishes", "_law_age", "_law_every"] (spUnder T.C_Rule T.C_Wish) := by
  refine T.d_law_under.F.ok sc_law_under (fun vs H Q E h => ?_) (fun cdv A outer s H vs Q E hr h => ?_)
  · obtain ⟨p, q, a, b, age, ev, R, W, xs, ys, rs, ws, rfl, _⟩ := h
    rfl
  · obtain ⟨p, q, a, b, age, ev, R, W, xs, ys, rs, ws, rfl, hp, hq, ha, hx, hb, hy, lr, lw, lR, lW, pW, pw, a0, hev, k⟩ := h
    refine ⟨_, (pss_cons (ps_set (i := 6) sc_law_under.nd rfl (.inl rfl) (pe_lst pa_nil))
      (pss_cons (ps_for PassesOwn.never rfl (pi_list (pv 2)) (pg_name (i := 7) sc_law_under.nd rfl (.inl rfl))
      (pss_one (ps_for PassesOwn.never rfl (pi_list (pv 3)) (pg_name (i := 8) sc_law_under.nd rfl (.inl rfl))
      (pss_cons (ps_for PassesOwn.never rfl (pi_list (pe_lst (pa_cons pe_bl (pa_cons pe_bl pa_nil)))) (pg_name (i := 9) sc_law_under.nd rfl (.inl rfl))
      (pss_one (ps_if (pt_pure (PW.pt (pw_and (pt_val (pe_callN (ok_serves T) (hr.mono (by decide)) (by rfl) T.d_serves.g T.d_serves.F.kp T.kb_3.choose_spec pass0 (pa_cons (pv 0) (pa_cons (pv 1) (pa_cons (pv 4) pa_nil))) (pk_cons (pv 9) pk_nil))) (pw_and1 (pt_not (pt_val (pe_callN (ok_serves T) (hr.mono (by decide)) (by rfl) T.d_serves.g T.d_serves.F.kp T.kb_3.choose_spec pass0 (pa_cons (pv 7) (pa_cons (pv 8) (pa_cons (pv 4) pa_nil))) (pk_cons (pv 9) pk_nil))))))))
      (pss_one (ps_ret pe_bl))
      pss_nil)))
      (pss_one (ps_expr (pe_bm PySem.F.plainAttrs_list PySem.F.slot_list_append PySem.F.type_list_append mt_append (pv 6) (pa_cons (pe_call (ok_lets T) (hr.mono (by decide)) (by rfl) T.d_lets.g T.d_lets.F.kp T.d_lets.b .nil pass0 (pa_cons (pv 7) (pa_cons (pv 8) (pa_cons (pv 4) pa_nil)))) pa_nil))))))))
      (pss_cons (ps_set (i := 10) sc_law_under.nd rfl (.inl rfl) (pe_cmpR op_eq (pe_bm PySem.F.plainAttrs_list PySem.F.slot_list_count PySem.F.type_list_count (mt_scount hr.units) (pv 6) (pa_cons pe_str pa_nil)) (pe_callB call_len_seq (by rfl) T.m_len (by decide +kernel) (pa_cons (pv 6) pa_nil)) (nomark _)))
      (pss_cons (ps_if (pt_pure (PW.pt (pw_and (pt_val (pv 5)) (pw_and (pt_val (pv 10)) (pw_and1 (pt_cmpR op_ne (pe_call (ok_lets T) (hr.mono (by decide)) (by rfl) T.d_lets.g T.d_lets.F.kp T.d_lets.b .nil pass0 (pa_cons (pv 0) (pa_cons (pv 1) (pa_cons (pv 4) pa_nil)))) pe_str (nomark _)))))))
      (pss_one (ps_ret pe_bl))
      pss_nil)
      (pss_one (ps_ret (pe_pure (pe_or (pv 10) (pe_one (pe_cmpR op_ne (pe_call (ok_lets T) (hr.mono (by decide)) (by rfl) T.d_lets.g T.d_lets.F.kp T.d_lets.b .nil pass0 (pa_cons (pv 0) (pa_cons (pv 1) (pa_cons (pv 4) pa_nil)))) pe_str (nomark _))))))))))), ?_⟩
    have lx : xs.length = rs.length := Paired.length hx
    have ly : ys.length = ws.length := Paired.length hy
    refine ⟨Nat.zero_le _, fun L hL => ?_⟩
    have sL := same_upd (o := .lst []) hL
    refine ⟨.ref a, rfl, a, rfl, ⟨_, SqL.of (sL _ _ ha)⟩, for_list (K := K) (a := a) (xs := xs) (fun i σ H' => Same H H' ∧ H' L = some (.lst ((wl (rs.take i) ws age).map V.str)) ∧ ∃ y7 y8 y9, σ = [some (.ref p), some (.ref q), some (.ref a), some (.ref b), some (.int age), some (.bl ev), some (.ref L), y7, y8, y9, none])
      ⟨sL, upd_same, none, none, none, rfl⟩ (fun i σ H' _ pv => SqL.of (pv.1 _ _ ha)) ?_ ?_⟩
    · rintro i v σ H1 hi ⟨s1, eL, y7, y8, y9, rfl⟩
      obtain ⟨r, hr', x, rfl, _⟩ := paired_at hx hi
      have hil : i < rs.length := (List.getElem?_eq_some_iff.mp hr').1
      have hxr : ∀ {H' : Hp}, Same H H' → RuleAt T.C_Rule H' x r := fun s => by
        obtain ⟨r', h1, x', e, h2⟩ := paired_at (rvs_mono s hx) hi
        rw [hr'] at h1
        cases h1
        cases e
        exact h2
      refine ⟨.ref b, rfl, b, rfl, ⟨_, SqL.of (s1 _ _ hb)⟩, for_list (K := K) (a := b) (xs := ys) (fun j σ H' => Same H H' ∧ H' L = some (.lst ((wl (rs.take i) ws age ++ (ws.take j).map fun w => letW r w age).map V.str)) ∧ ∃ y8 y9, σ = [some (.ref p), some (.ref q), some (.ref a), some (.ref b), some (.int age), some (.bl ev), some (.ref L), some (.ref x), y8, y9, none])
        ⟨s1, by rw [eL, List.take_zero, List.map_nil, List.append_nil], y8, y9, rfl⟩ (fun j σ H' _ pv => SqL.of (pv.1 _ _ hb)) ?_ ?_⟩
      · rintro j v σ H2 hj ⟨s2, eL2, z8, z9, rfl⟩
        obtain ⟨wi, hw', y, rfl, _⟩ := paired_at hy hj
        have hjl : j < ws.length := (List.getElem?_eq_some_iff.mp hw').1
        have hyw : ∀ {H' : Hp}, Same H H' → WishAt T.C_Wish H' y wi := fun s => by
          obtain ⟨r', h1, x', e, h2⟩ := paired_at (wvs_mono s hy) hj
          rw [hw'] at h1
          cases h1
          cases e
          exact h2
        refine ⟨(by show 2 ≤ sizeLine; decide), fun l hl => ?_⟩
        have sl := same_upd (o := .lst [V.bl false, V.bl true]) hl
        have el : (upd H2 l (.lst [V.bl false, V.bl true])) l = some (.lst [V.bl false, V.bl true]) := upd_same
        have eL3 := sl _ _ eL2
        generalize upd H2 l (.lst [V.bl false, V.bl true]) = H3 at *
        have t3 := s2.trans sl
        refine ⟨l, rfl, ⟨_, SqL.of el⟩, for_list (K := K) (a := l) (xs := ([false, true] : List Bool).map V.bl) (fun i σ H' => H' = H3 ∧ ∃ y9, σ = [some (.ref p), some (.ref q), some (.ref a), some (.ref b), some (.int age), some (.bl ev), some (.ref L), some (.ref x), some (.ref y), y9, none])
          ⟨rfl, z9, rfl⟩ (fun i σ H' _ pv => by rw [pv.1]; exact SqL.of el) ?_ ?_⟩
        · rintro i' v σ H4 hi' ⟨rfl, u9, rfl⟩
          obtain ⟨late, _, rfl⟩ := List.mem_map.mp (List.mem_of_getElem? hi')
          refine ⟨false, ?_, rfl, _, rfl⟩
          refine ⟨.ref p, rfl, .ref q, rfl, .int age, rfl, .bl late, rfl, rfl, rfl, p, q, R, W, age, late, rfl, hp.mono t3, hq.mono t3, _, rfl, ite2 (fun e => ?_) (fun e => ?_)⟩
          · refine ⟨.ref x, rfl, .ref y, rfl, .int age, rfl, .bl late, rfl, rfl, rfl, x, y, r, wi, age, late, rfl, hxr t3, hyw t3, _, rfl, ?_, rfl⟩
            rw [serv_mono (lR r (List.mem_of_getElem? hr')) (lW wi (List.mem_of_getElem? hw')) pW (pw wi (List.mem_of_getElem? hw')) a0 e]
            rfl
          · exact ⟨rfl, rfl⟩
        · rintro σ H4 ⟨rfl, u9, rfl⟩
          have hlen : ((wl (rs.take i) ws age ++ (ws.take j).map fun w => letW r w age).map V.str).length < 100000 := by
            rw [List.length_map, List.length_append, List.length_map, List.length_take]
            rw [wl_len, List.length_take]
            have : min i rs.length * ws.length ≤ 10 * 10 := Nat.mul_le_mul (by omega) lw
            omega
          refine ⟨.ref L, rfl, .inl ⟨rfl, _, SqL.of eL3⟩, .ref x, rfl, .ref y, rfl, .int age, rfl, x, y, r, wi, age, rfl, hxr t3, hyw t3, L, _, _, rfl, rfl, eL3, szlt hlen, same_mut t3 hL, ?_, _, _, rfl⟩
          have e1 : (wl (rs.take i) ws age ++ (ws.take (j + 1)).map fun w => letW r w age) = (wl (rs.take i) ws age ++ (ws.take j).map fun w => letW r w age) ++ [letW r wi age] := by
            rw [take_map _ hw', List.append_assoc]
          rw [upd_same, e1]
          generalize (wl (rs.take i) ws age ++ (ws.take j).map fun w => letW r w age) = A0
          rw [List.map_append]
          rfl
      · rintro σ H2 ⟨s2, eL2, z8, z9, rfl⟩
        rw [ly, List.take_length] at eL2
        refine ⟨s2, ?_, _, _, _, rfl⟩
        rw [eL2]
        unfold wl
        rw [List.take_add_one, hr', List.flatMap_append]
        simp
    · rintro σ H1 ⟨s1, eL, y7, y8, y9, rfl⟩
      rw [lx, List.take_length] at eL
      have all_iff : (wl rs ws age).countP (fun b => decide (b = ("fresh" : Str))) = (wl rs ws age).length ↔ ∀ r ∈ rs, ∀ w ∈ ws, frB r w age := by
        rw [List.countP_eq_length]
        constructor
        · intro h r hr' w hw'
          exact (fresh_iff r w age).mp (of_decide_eq_true (h _ (List.mem_flatMap.mpr ⟨r, hr', List.mem_map.mpr ⟨w, hw', rfl⟩⟩)))
        · intro h z hz
          obtain ⟨r, hr', h2⟩ := List.mem_flatMap.mp hz
          obtain ⟨w, hw', rfl⟩ := List.mem_map.mp h2
          exact decide_eq_true ((fresh_iff r w age).mpr (h r hr' w hw'))
      refine ⟨.ref L, rfl, .inl ⟨rfl, _, SqL.of eL⟩, L, _, "fresh", rfl, rfl, SqL.of eL, .ref L, rfl, L, _, rfl, .inl (SqL.of eL), rfl, ?_⟩
      rw [List.length_map]
      have hRW : ∀ H', Same H H' → RuleAt T.C_Rule H' p R ∧ WishAt T.C_Wish H' q W := fun H' s => ⟨hp.mono s, hq.mono s⟩
      have ne_iff : ∀ {b : Bool}, (frB R W age → b = false) → (¬ frB R W age → b = true) → (!decide (V.str (letW R W age) = V.str "fresh")) = b := fun {b} h1 h2 => by
        by_cases f : frB R W age
        · rw [h1 f, decide_eq_true (congrArg V.str ((fresh_iff R W age).mpr f))]
          rfl
        · rw [h2 f, decide_eq_false (fun z => f ((fresh_iff R W age).mp (V.str.inj z)))]
          rfl
      by_cases hall : ∀ r ∈ rs, ∀ w ∈ ws, frB r w age
      · rw [decide_eq_true (show V.int (((wl rs ws age).countP (fun b => decide (b = ("fresh" : Str))) : Nat) : Int) = V.int ((wl rs ws age).length : Nat) by rw [all_iff.mpr hall])]
        refine ⟨false, ?_, .bl true, ?_, k H1 s1⟩
        · refine ⟨_, rfl, ev, rfl, ite2 (fun e => ?_) (fun e => ⟨rfl, rfl⟩)⟩
          refine ⟨_, rfl, true, rfl, .ref p, rfl, .ref q, rfl, .int age, rfl, p, q, R, W, age, rfl, hp.mono s1, hq.mono s1, rfl, _, rfl, ne_iff (fun _ => rfl) (fun z => absurd (hev e hall) z), rfl⟩
        · exact ⟨_, rfl, true, rfl, rfl, rfl⟩
      · rw [decide_eq_false (show ¬ V.int (((wl rs ws age).countP (fun b => decide (b = ("fresh" : Str))) : Nat) : Int) = V.int ((wl rs ws age).length : Nat) from fun z => hall (all_iff.mp (by have := V.int.inj z; omega)))]
        have nf : ¬ frB R W age := fun z => hall fun r hr' w hw' => fr_mono (lR r hr') (lW w hw') z
        refine ⟨false, ?_, .bl true, ?_, k H1 s1⟩
        · refine ⟨_, rfl, ev, rfl, ite2 (fun e => ?_) (fun e => ⟨rfl, rfl⟩)⟩
          exact ⟨_, rfl, false, rfl, rfl, rfl⟩
        · exact ⟨_, rfl, false, rfl, .ref p, rfl, .ref q, rfl, .int age, rfl, p, q, R, W, age, rfl, hp.mono s1, hq.mono s1, rfl, by rw [ne_iff (b := true) (fun z => absurd z nf) (fun _ => rfl)], rfl⟩
end
end My
namespace My
open PySem PySem.Spec PyProof.Rows L2 TL
theorem negI : (-(1 : Int)) = -1 := rfl
theorem last_at {α : Type} {xs : List α} {x : α} : atI (xs ++ [x]) (-1) = some x := atI_last _ _
theorem map_at {α β : Type} {R : α → β → Prop} {xs : List α} {ys : List β} (h : Paired R xs ys) {n : Nat} : Paired R (xs.take n) (ys.take n) := by
  induction h generalizing n with
  | nil =>
    rw [List.take_nil, List.take_nil]
    exact .nil
  | cons a b ih =>
    cases n with
    | zero => exact .nil
    | succ n => exact .cons a ih
theorem drop_at {α β : Type} {R : α → β → Prop} {xs : List α} {ys : List β} (h : Paired R xs ys) {n : Nat} : Paired R (xs.drop n) (ys.drop n) := by
  induction h generalizing n with
  | nil =>
    rw [List.drop_nil, List.drop_nil]
    exact .nil
  | cons a b ih =>
    cases n with
    | zero => exact .cons a b
    | succ n => exact ih
theorem cut_to {xs : List V} {n : Nat} (h : n ≤ xs.length) : cutV xs none (some (n : Int)) = xs.take n := by
  have := cutV_ex (fun v : V => v) xs none (some (n : Int))
  rw [List.map_id', List.map_id', HT.sIx_nat, Nat.min_eq_left h] at this
  rw [this]
  show (xs.drop 0).take (n - 0) = _
  rw [List.drop_zero, Nat.sub_zero]
theorem cut_from {xs : List V} {n : Nat} (h : n ≤ xs.length) : cutV xs (some (n : Int)) none = xs.drop n := by
  have := cutV_ex (fun v : V => v) xs (some (n : Int)) none
  rw [List.map_id', List.map_id', HT.sIx_nat, Nat.min_eq_left h] at this
  rw [this]
  show (xs.drop n).take (xs.length - n) = _
  rw [List.take_of_length_le (by rw [List.length_drop]; exact Nat.le_refl _)]
end My
namespace My
open PySem PySem.Spec PyProof.Rows L2 TL
theorem fR_both (r : RuleR) : (fR r).lookup ("both" : Str) = none := by unfold fR; (repeat (rw [lookup_putF, if_neg (by decide +kernel)])); rfl
theorem fW_both (r : WishR) : (fW r).lookup ("both" : Str) = none := by unfold fW; (repeat (rw [lookup_putF, if_neg (by decide +kernel)])); rfl
theorem cut_upto (xs : List V) (n : Nat) : cutV xs none (some (n : Int)) = xs.take n := by
  by_cases h : n ≤ xs.length
  · exact cut_to h
  · have := cutV_ex (fun v : V => v) xs none (some (n : Int))
    rw [List.map_id', List.map_id', HT.sIx_nat, Nat.min_eq_right (by omega)] at this
    rw [this]
    show (xs.drop 0).take (xs.length - 0) = _
    rw [List.drop_zero, Nat.sub_zero, List.take_length, List.take_of_length_le (by omega)]
theorem cut_init (xs : List V) (v : V) : cutV (xs ++ [v]) none (some (-1)) = xs := by
  have := cutV_ex (fun v : V => v) (xs ++ [v]) none (some (-1))
  rw [List.map_id', List.map_id'] at this
  rw [this]
  have e : HT.sIx (xs ++ [v]).length (xs ++ [v]).length (some (-1)) = xs.length := by
    show (if (-1 : Int) < 0 then (-1 + (((xs ++ [v]).length : Nat) : Int)).toNat else min (-1 : Int).toNat (xs ++ [v]).length) = _
    rw [if_pos (by decide), List.length_append]
    simp only [List.length_cons, List.length_nil]
    omega
  rw [e]
  show ((xs ++ [v]).drop 0).take (xs.length - 0) = _
  rw [List.drop_zero, Nat.sub_zero, List.take_left]
theorem RRow.weak {C : Addr} {bad : List Addr} {H : Hp} {v : V} {r : RuleR} : RRow C bad H v r → RRow C [] H v r := fun ⟨t, p, s, e, h1, h2, h3, _, h5⟩ => ⟨t, p, s, e, h1, h2, h3, List.not_mem_nil, h5⟩
theorem WRow.weak {C : Addr} {bad : List Addr} {H : Hp} {v : V} {r : WishR} : WRow C bad H v r → WRow C [] H v r := fun ⟨t, p, m, b, ms, x, y, e, h1, h2, h3, h4, h5, _, _, h8⟩ => ⟨t, p, m, b, ms, x, y, e, h1, h2, h3, h4, h5, List.not_mem_nil, List.not_mem_nil, h8⟩
theorem paired_app {α β : Type} {R : α → β → Prop} : ∀ {a : List α} {b : List β} {c : List α} {d : List β}, Paired R a b → Paired R c d → Paired R (a ++ c) (b ++ d)
  | _, _, _, _, .nil, h => h
  | _, _, _, _, .cons x t, h => .cons x (paired_app t h)
theorem paired_last {α β : Type} {R : α → β → Prop} : ∀ {a : List α} {x : α} {b : List β}, Paired R (a ++ [x]) b → ∃ b' y, b = b' ++ [y] ∧ R x y
  | [], x, _, .cons r .nil => ⟨[], _, rfl, r⟩
  | a :: as, x, _, .cons r t => by
    obtain ⟨b', y, rfl, h⟩ := paired_last t
    exact ⟨_ :: b', y, rfl, h⟩
section
variable {P : Program} {w : World} {K : PySem.W.Frag} {mg : Str → Option Value} {base : Heap}
/-- what the rows' lists hold -/
structure Rows (C D L1 L2 : Addr) (H : Hp) (n : Nat) (rs : List RuleR) (ws : List WishR) : Prop where
  a : ∃ xs, H L1 = some (.lst xs) ∧ Paired (RRow C [L1, L2] H) xs rs
  b : ∃ ys, H L2 = some (.lst ys) ∧ Paired (WRow D [L1, L2] H) ys ws
  l1 : rs.length = n
  l2 : ws.length = n
/-- one turn of the first loop -/
theorem turnA {C D L1 L2 W : Addr} {H0 H1 H2 H3 : Hp} {n : Nat} {rs : List RuleR} {ws : List WishR} {xs ys : List V} {t p s t' p' m b : Addr} {r : RuleR} {wi : WishR} {mms : List Int} {x y : Int}
    (e1 : H0 L1 = some (.lst xs)) (hx : Paired (RRow C [L1, L2] H0) xs rs) (e2 : H0 L2 = some (.lst ys)) (hy : Paired (WRow D [L1, L2] H0) ys ws) (l1 : rs.length = n) (l2 : ws.length = n) (nL : L1 ≠ L2) (hW : H0 W = none)
    (kA : ∀ b o, H0 b = some o → H1 b = some o) (kB : ∀ b o, b ≠ W → H1 b = some o → H2 b = some o) (n1 : H1 t = none) (n2 : H1 p = none) (n3 : H1 s = none) (et : H2 t = some (.tup [.ref p, .ref s])) (ep : RuleAt C H2 p r) (es : H2 s = some (.lst [.int r.keep, .int (r.keep + r.worn), .int (r.keep + r.alone)])) (pr : posR r) (nWt : t ≠ W) (nWp : p ≠ W) (nWs : s ≠ W)
    (kC : ∀ b o, b ≠ W → (upd H2 L1 (.lst (xs ++ [.ref t]))) b = some o → H3 b = some o) (m1 : (upd H2 L1 (.lst (xs ++ [.ref t]))) t' = none) (m2 : (upd H2 L1 (.lst (xs ++ [.ref t]))) p' = none) (m3 : (upd H2 L1 (.lst (xs ++ [.ref t]))) m = none) (m4 : (upd H2 L1 (.lst (xs ++ [.ref t]))) b = none)
    (et' : H3 t' = some (.tup [.ref p', .ref m, .ref b])) (ep' : WishAt D H3 p' wi) (em : H3 m = some (.lst (mms.map V.int))) (lm : mms.length ≤ 1) (eb : H3 b = some (.lst [.int x, .int y])) (pw : posW wi) :
    Rows C D L1 L2 (upd H3 L2 (.lst (ys ++ [.ref t']))) (n + 1) (rs ++ [r]) (ws ++ [wi]) := by
  have nW1 : L1 ≠ W := ne_of_none e1 hW
  have nW2 : L2 ≠ W := ne_of_none e2 hW
  have e11 := kA _ _ e1
  have e21 := kA _ _ e2
  have e12 := kB _ _ nW1 e11
  have e22 := kB _ _ nW2 e21
  have nt1 : t ≠ L1 := fun z => by rw [z, e11] at n1; cases n1
  have nt2 : t ≠ L2 := fun z => by rw [z, e21] at n1; cases n1
  have np1 : p ≠ L1 := fun z => by rw [z, e11] at n2; cases n2
  have np2 : p ≠ L2 := fun z => by rw [z, e21] at n2; cases n2
  have ns1 : s ≠ L1 := fun z => by rw [z, e11] at n3; cases n3
  have ns2 : s ≠ L2 := fun z => by rw [z, e21] at n3; cases n3
  have e13 : H3 L1 = some (.lst (xs ++ [.ref t])) := kC _ _ nW1 upd_same
  have e23 : H3 L2 = some (.lst ys) := kC _ _ nW2 (by rw [upd_ne nL.symm]; exact e22)
  have u2 : ∀ {q : Addr} {o : HO}, q ≠ W → q ≠ L1 → q ≠ L2 → H2 q = some o → (upd H3 L2 (.lst (ys ++ [.ref t']))) q = some o := fun hw h1 h2 h => by
    rw [upd_ne h2]
    exact kC _ _ hw (by rw [upd_ne h1]; exact h)
  have u3 : ∀ {q : Addr} {o : HO}, (upd H2 L1 (.lst (xs ++ [.ref t]))) q = none → H3 q = some o → (upd H3 L2 (.lst (ys ++ [.ref t']))) q = some o ∧ q ≠ L1 ∧ q ≠ L2 := fun {q o} hn h => by
    have a1 : q ≠ L1 := fun z => by rw [z, upd_same] at hn; cases hn
    have a2 : q ≠ L2 := fun z => by rw [z, upd_ne nL.symm, e22] at hn; cases hn
    exact ⟨by rw [upd_ne a2]; exact h, a1, a2⟩
  have kp : Kp [L1, L2] H0 (upd H3 L2 (.lst (ys ++ [.ref t']))) := by
    refine ⟨fun q o hq h => ?_, fun q hq => ?_⟩
    · simp only [List.mem_cons, List.not_mem_nil, or_false, not_or] at hq
      have hw : q ≠ W := ne_of_none h hW
      exact u2 hw hq.1 hq.2 (kB _ _ hw (kA _ _ h))
    · simp only [List.mem_cons, List.not_mem_nil, or_false] at hq
      rcases hq with rfl | rfl
      · exact ⟨_, e1⟩
      · exact ⟨_, e2⟩
  have nb : ∀ {q : Addr}, q ≠ L1 → q ≠ L2 → q ∉ [L1, L2] := fun h1 h2 z => by
    simp only [List.mem_cons, List.not_mem_nil, or_false] at z
    exact z.elim h1 h2
  obtain ⟨dx, hp⟩ := ep
  obtain ⟨dy, hp'⟩ := ep'
  obtain ⟨a1, _, _⟩ := u3 m1 et'
  obtain ⟨a2, _, _⟩ := u3 m2 hp'
  obtain ⟨a3, b3, c3⟩ := u3 m3 em
  obtain ⟨a4, b4, c4⟩ := u3 m4 eb
  refine ⟨⟨xs ++ [.ref t], by rw [upd_ne nL]; exact e13, paired_app (rrows_mono kp hx) (.cons ⟨t, p, s, rfl, u2 nWt nt1 nt2 et, ⟨dx, u2 nWp np1 np2 hp⟩, u2 nWs ns1 ns2 es, nb ns1 ns2, pr⟩ .nil)⟩, ⟨ys ++ [.ref t'], upd_same, paired_app (wrows_mono kp hy) (.cons ⟨t', p', m, b, mms, x, y, rfl, a1, ⟨dy, a2⟩, a3, lm, a4, nb b3 c3, nb b4 c4, pw⟩ .nil)⟩, by rw [List.length_append, l1]; rfl, by rw [List.length_append, l2]; rfl⟩
end
end My
namespace My
open PySem PySem.Spec PyProof.Rows L2 TL
section
variable {P : Program} {w : World} {K : PySem.W.Frag} {mg : Str → Option Value} {base : Heap}
theorem ok_law (T : Txt K mg) : FnOk P w K mg base CX0 4 T.f_law T.fd_law ["_law_script"] (spLaw K) := by
  refine T.d_law.F.ok sc_law (fun vs H Q E h => ?_) (fun cdv A outer s H vs Q E hr h => ?_)
  · obtain ⟨a, ns, rfl, _⟩ := h
    rfl
  · obtain ⟨sc, ns, rfl, hS, hlen, q⟩ := h
    refine ⟨_, (pss_cons (ps_set (i := 1) sc_law.nd rfl (.inl rfl) (pe_lst pa_nil))
      (pss_cons (ps_set (i := 2) sc_law.nd rfl (.inl rfl) (pe_lst pa_nil))
      (pss_cons (ps_for PassesOwn.never rfl (pi_list (pe_slice sl_list (pe_op op_cat (pe_slice sl_list (pv 0) po_none (po_some pe_int)) (pe_lst (pa_cons pe_int (pa_cons pe_int (pa_cons pe_int pa_nil))))) po_none (po_some pe_int))) (pg_name (i := 3) sc_law.nd rfl (.inl rfl))
      (pss_cons (ps_set (i := 4) sc_law.nd rfl (.inl rfl) (pe_call (ok_law_well T) (hr.mono (by decide)) (by rfl) T.d_law_well.g T.d_law_well.F.kp T.d_law_well.b .nil pass0 (pa_cons (pv 3) pa_nil)))
      (pss_cons (ps_expr (pe_bm PySem.F.plainAttrs_list PySem.F.slot_list_append PySem.F.type_list_append mt_append (pv 1) (pa_cons (pe_call (ok_law_rule T) (hr.mono (by decide)) (by rfl) T.d_law_rule.g T.d_law_rule.F.kp T.d_law_rule.b .nil pass0 (pa_cons (pv 4) (pa_cons (pe_ix ix_list (pe_ix ix_tup (pe_ix ix_list (pe_op op_cat (pe_lst (pa_cons (pe_tup (pa_cons pe_non (pa_cons (pe_lst (pa_cons pe_int pa_nil)) pa_nil))) pa_nil)) (pv 1)) (pe_un un_neg pe_int) (fun _ _ => rfl)) pe_int (fun _ _ => rfl)) pe_int (fun _ _ => rfl)) pa_nil))) pa_nil)))
      (pss_one (ps_expr (pe_bm PySem.F.plainAttrs_list PySem.F.slot_list_append PySem.F.type_list_append mt_append (pv 2) (pa_cons (pe_call (ok_law_wish T) (hr.mono (by decide)) (by rfl) T.d_law_wish.g T.d_law_wish.F.kp T.d_law_wish.b .nil pass0 (pa_cons (pv 4) (pa_cons (pe_ix ix_list (pe_ix ix_tup (pe_ix ix_list (pv 1) (pe_un un_neg pe_int) (fun _ _ => rfl)) pe_int (fun _ _ => rfl)) pe_int (fun _ _ => rfl)) pa_nil))) pa_nil)))))))
      (pss_cons (ps_set (i := 5) sc_law.nd rfl (.inl rfl) (pe_lst (pa_cons pe_int (pa_cons pe_int (pa_cons (pe_callB call_len_seq (by rfl) T.m_len (by decide +kernel) (pa_cons (pv 1) pa_nil)) pa_nil)))))
      (pss_cons (ps_for PassesOwn.never rfl (pi_range1 (by rfl) T.m_range (pa_cons pe_int pa_nil)) (pg_name (i := 6) sc_law.nd rfl (.inl rfl))
      (pss_cons (ps_setLc (i := 7) (own := [("_law_row", 15)]) (g := gName 15) (tt := tYes) (te := tOp (rIxT K) (tVar 15) (tC (.int 0))) (by rfl) sc_law.nd rfl rfl (sw_true rfl rfl rfl (by decide +kernel)) (pi_list (pe_slice sl_list (pv 1) po_none (po_some (pe_ix ix_list (pv 5) (pv 6) (fun _ _ => rfl))))) (blkOk_by (own := [("_law_row", 15)]) (N := ["_law_script", "_law_rule_rows", "_law_wish_rows", "_law_cell", "_law_well_here", "_law_many", "_law_k", "_law_rules", "_law_wishes", "_law_rule_here", "_law_wish_here", "_law_one", "_law_turned", "_law_ages_here", "_law_age", "_law_row"]) (sc := defScope s_law) (by decide +kernel)) (fun _ _ _ _ _ => (pg_name (i := 15) sc_law.nd rfl (Or.inl rfl))) (fun _ _ _ _ _ => pts_nil) (fun _ _ _ _ _ => (pe_ix ix_tup (pv 15) pe_int (fun _ _ => rfl))))
      (pss_cons (ps_setLc (i := 8) (own := [("_law_row", 15)]) (g := gName 15) (tt := tYes) (te := tOp (rIxT K) (tVar 15) (tC (.int 0))) (by rfl) sc_law.nd rfl rfl (sw_true rfl rfl rfl (by decide +kernel)) (pi_list (pe_slice sl_list (pv 2) po_none (po_some (pe_ix ix_list (pv 5) (pv 6) (fun _ _ => rfl))))) (blkOk_by (own := [("_law_row", 15)]) (N := ["_law_script", "_law_rule_rows", "_law_wish_rows", "_law_cell", "_law_well_here", "_law_many", "_law_k", "_law_rules", "_law_wishes", "_law_rule_here", "_law_wish_here", "_law_one", "_law_turned", "_law_ages_here", "_law_age", "_law_row"]) (sc := defScope s_law) (by decide +kernel)) (fun _ _ _ _ _ => (pg_name (i := 15) sc_law.nd rfl (Or.inl rfl))) (fun _ _ _ _ _ => pts_nil) (fun _ _ _ _ _ => (pe_ix ix_tup (pv 15) pe_int (fun _ _ => rfl))))
      (pss_cons (ps_set (i := 9) sc_law.nd rfl (.inl rfl) (pe_ix ix_list (pv 7) pe_int (fun _ _ => rfl)))
      (pss_cons (ps_set (i := 10) sc_law.nd rfl (.inl rfl) (pe_ix ix_list (pv 8) pe_int (fun _ _ => rfl)))
      (pss_cons (ps_for PassesOwn.never rfl (pi_list (pe_slice sl_list (pv 7) (po_some pe_int) po_none)) (pg_name (i := 11) sc_law.nd rfl (.inl rfl))
      (pss_one (ps_set (i := 9) sc_law.nd rfl (.inl rfl) (pe_meth (pv 9) T.cl_Rule T.me_Rule_both (ok_Rule_both T) (hr.mono (by decide)) T.d_Rule_both.b .nil pass0 (pa_cons (pv 11) pa_nil)))))
      (pss_cons (ps_for PassesOwn.never rfl (pi_list (pe_slice sl_list (pv 8) (po_some pe_int) po_none)) (pg_name (i := 11) sc_law.nd rfl (.inl rfl))
      (pss_one (ps_set (i := 10) sc_law.nd rfl (.inl rfl) (pe_meth (pv 11) T.cl_Wish T.me_Wish_both (ok_Wish_both T) (hr.mono (by decide)) T.d_Wish_both.b .nil pass0 (pa_cons (pv 10) pa_nil)))))
      (pss_cons (ps_set (i := 12) sc_law.nd rfl (.inl rfl) (pe_ix ix_list (pv 7) (pe_un un_neg pe_int) (fun _ _ => rfl)))
      (pss_cons (ps_for PassesOwn.never rfl (pi_list (pe_slice sl_list (pv 7) po_none (po_some (pe_un un_neg pe_int)))) (pg_name (i := 11) sc_law.nd rfl (.inl rfl))
      (pss_one (ps_set (i := 12) sc_law.nd rfl (.inl rfl) (pe_meth (pv 11) T.cl_Rule T.me_Rule_both (ok_Rule_both T) (hr.mono (by decide)) T.d_Rule_both.b .nil pass0 (pa_cons (pv 12) pa_nil)))))
      (pss_cons (ps_set (i := 13) sc_law.nd rfl (.inl rfl) (pe_call (ok_law_ages T) (hr.mono (by decide)) (by rfl) T.d_law_ages.g T.d_law_ages.F.kp T.d_law_ages.b .nil pass0 (pa_cons (pe_slice sl_list (pv 1) po_none (po_some (pe_ix ix_list (pv 5) (pv 6) (fun _ _ => rfl)))) (pa_cons (pe_slice sl_list (pv 2) po_none (po_some (pe_ix ix_list (pv 5) (pv 6) (fun _ _ => rfl)))) pa_nil))))
      (pss_cons (ps_if (pt_mid (PW.pt (pw_or (pt_not (pt_val (pe_call (ok_law_falls T) (hr.mono (by decide)) (by rfl) T.d_law_falls.g T.d_law_falls.F.kp T.d_law_falls.b .nil pass0 (pa_cons (pv 9) (pa_cons (pv 10) (pa_cons (pv 13) pa_nil)))))) (pw_or1 (pt_not (pt_val (pe_call (ok_law_falls T) (hr.mono (by decide)) (by rfl) T.d_law_falls.g T.d_law_falls.F.kp T.d_law_falls.b .nil pass0 (pa_cons (pe_ix ix_list (pv 7) (pv 6) (fun _ _ => rfl)) (pa_cons (pe_ix ix_list (pv 8) (pv 6) (fun _ _ => rfl)) (pa_cons (pv 13) pa_nil))))))))))
      (pss_one (ps_ret pe_bl))
      pss_nil)
      (pss_one (ps_for PassesOwn.never rfl (pi_list (pv 13)) (pg_name (i := 14) sc_law.nd rfl (.inl rfl))
      (pss_cons (ps_if (pt_cmpR op_ne (pe_call (ok_lets T) (hr.mono (by decide)) (by rfl) T.d_lets.g T.d_lets.F.kp T.d_lets.b .nil pass0 (pa_cons (pv 9) (pa_cons (pv 10) (pa_cons (pv 14) pa_nil)))) (pe_call (ok_lets T) (hr.mono (by decide)) (by rfl) T.d_lets.g T.d_lets.F.kp T.d_lets.b .nil pass0 (pa_cons (pv 12) (pa_cons (pv 10) (pa_cons (pv 14) pa_nil)))) (nomark _))
      (pss_one (ps_ret pe_bl))
      pss_nil)
      (pss_one (ps_if (pt_not (pt_val (pe_call (ok_law_under T) (hr.mono (by decide)) (by rfl) T.d_law_under.g T.d_law_under.F.kp T.d_law_under.b .nil pass0 (pa_cons (pv 9) (pa_cons (pv 10) (pa_cons (pe_slice sl_list (pv 7) po_none (po_some pe_int)) (pa_cons (pe_slice sl_list (pv 8) po_none (po_some pe_int)) (pa_cons (pv 14) (pa_cons (pe_cmpR op_lt (pv 6) pe_int (nomark _)) pa_nil)))))))))
      (pss_one (ps_ret pe_bl))
      pss_nil))))))))))))))))
      (pss_one (ps_ret pe_bl))))))), ?_⟩
    refine ⟨Nat.zero_le _, fun L1 hL1 => ⟨Nat.zero_le _, fun L2 hL2 => ?_⟩⟩
    have sA := (same_upd (o := .lst []) hL1).trans (same_upd (o := .lst []) hL2)
    have nL : L1 ≠ L2 := ne_of_none upd_same hL2
    have eL1 : (upd (upd H L1 (.lst [])) L2 (.lst [])) L1 = some (.lst []) := by rw [upd_ne nL, upd_same]
    have eL2 : (upd (upd H L1 (.lst [])) L2 (.lst [])) L2 = some (.lst []) := upd_same
    generalize upd (upd H L1 (.lst [])) L2 (.lst []) = HA at *
    have ec1 : cutV (ns.map V.int) none (some 6) = (ns.take 6).map V.int := by
      rw [show (6 : Int) = ((6 : Nat) : Int) from rfl, cut_upto, List.map_take]
    refine ⟨.ref sc, rfl, 6, rfl, sc, _, rfl, sA.seq hS, fun p1 h1 => ?_⟩
    rw [ec1]
    refine ⟨(by show 3 ≤ sizeLine; decide), fun p2 h2 => ?_⟩
    have s1 := same_upd (o := .lst ((ns.take 6).map V.int)) h1
    have s2 := same_upd (o := .lst (([0, 6, 11] : List Int).map V.int)) h2
    refine ⟨p1, p2, _, _, rfl, rfl, s2 _ _ upd_same, upd_same, by rw [List.length_map, List.length_take]; exact szl (by show min 6 ns.length + 3 ≤ _; omega), fun p3 h3 => ?_⟩
    have s3 := same_upd (o := .lst ((ns.take 6).map V.int ++ ([0, 6, 11] : List Int).map V.int)) h3
    refine ⟨6, rfl, p3, _, rfl, SqL.of upd_same, fun p4 h4 => ?_⟩
    obtain ⟨cells, hc, lc1, lc2⟩ : ∃ cells : List Int, cutV ((ns.take 6).map V.int ++ ([0, 6, 11] : List Int).map V.int) none (some 6) = cells.map V.int ∧ 3 ≤ cells.length ∧ cells.length ≤ 6 := by
      refine ⟨(ns.take 6 ++ [0, 6, 11]).take 6, ?_, ?_, ?_⟩
      · rw [show (6 : Int) = ((6 : Nat) : Int) from rfl, cut_upto, ← List.map_append, List.map_take]
      · rw [List.length_take, List.length_append, List.length_take]
        show 3 ≤ min 6 (min 6 ns.length + 3)
        omega
      · rw [List.length_take]
        omega
    have hc' : cutV ((ns.take 6).map V.int ++ [V.int 0, .int 6, .int 11]) none (some 6) = cells.map V.int := hc
    rw [hc']
    have s4 := same_upd (o := .lst (cells.map V.int)) h4
    have t4 := ((s1.trans s2).trans s3).trans s4
    refine ⟨p4, rfl, ⟨_, SqL.of upd_same⟩, for_list (K := K) (a := p4) (xs := cells.map V.int) (fun i σ H' => H' p4 = some (.lst (cells.map V.int)) ∧ ∃ (rs : List RuleR) (ws : List WishR) (y3 y4 : Option V), Rows T.C_Rule T.C_Wish L1 L2 H' i rs ws ∧ σ = [some (.ref sc), some (.ref L1), some (.ref L2), y3, y4, none, none, none, none, none, none, none, none, none, none, none])
      ⟨upd_same, [], [], none, none, ⟨⟨[], t4 _ _ eL1, .nil⟩, ⟨[], t4 _ _ eL2, .nil⟩, rfl, rfl⟩, rfl⟩ (fun i σ H' _ pv => SqL.of pv.1) ?_ ?_⟩
    · rintro i v σ H0 hi ⟨e4, rs, ws, y3, y4, rows, rfl⟩
      obtain ⟨n, rfl⟩ := int_at hi
      have hil : i < cells.length := by
        have := (List.getElem?_eq_some_iff.mp hi).1
        rwa [List.length_map] at this
      obtain ⟨⟨xs, e1, hx⟩, ⟨ys, e2, hy⟩, l1, l2⟩ := rows
      have lx : xs.length = i := (Paired.length hx).trans l1
      have lyy : ys.length = i := (Paired.length hy).trans l2
      have n41 : p4 ≠ L1 := (ne_of_none (((s1.trans s2).trans s3) _ _ eL1) h4).symm
      have n42 : p4 ≠ L2 := (ne_of_none (((s1.trans s2).trans s3) _ _ eL2) h4).symm
      refine ⟨.int n, rfl, n, rfl, fun W wa wb wc hW => ?_⟩
      have sW := same_upd (o := W3 wa wb wc) hW
      have hI0 : IsW (upd H0 W (W3 wa wb wc)) W := ⟨wa, wb, wc, upd_same⟩
      generalize upd H0 W (W3 wa wb wc) = Hw at *
      have nW1 : L1 ≠ W := ne_of_none e1 hW
      have nW2 : L2 ≠ W := ne_of_none e2 hW
      have nW4 : p4 ≠ W := ne_of_none e4 hW
      have e1w := sW _ _ e1
      -- the rule
      refine ⟨.ref L1, rfl, .inl ⟨rfl, _, SqL.of e1w⟩, .ref W, rfl, (by show 1 ≤ sizeLine; decide), fun n9 hn9 => ⟨(by show 2 ≤ sizeLine; decide), fun tt htt => ⟨(by show 1 ≤ sizeLine; decide), fun ll hll => ?_⟩⟩⟩
      have b1 := same_upd (o := .lst [V.int 9]) hn9
      have b2 := same_upd (o := .tup [V.non, .ref n9]) htt
      have b3 := same_upd (o := .lst [V.ref tt]) hll
      have b13 := (b1.trans b2).trans b3
      refine ⟨.ref L1, rfl, ll, L1, _, _, rfl, rfl, upd_same, b13 _ _ e1w, (by show 1 + _ ≤ sizeLine; exact szl (by omega)), fun cc hcc => ?_⟩
      have b4 := same_upd (o := .lst ([V.ref tt] ++ xs)) hcc
      have b14 := b13.trans b4
      have sb := sW.trans b14
      obtain ⟨tl, sl, aa, near, rest, n0, ea, et0, es0⟩ : ∃ (tl sl : Addr) (aa : V) (near : Int) (rest : List V), 0 ≤ near ∧ atI ([V.ref tt] ++ xs) (-1) = some (.ref tl) ∧ (upd (upd (upd (upd Hw n9 (.lst [V.int 9])) tt (.tup [V.non, .ref n9])) ll (.lst [V.ref tt])) cc (.lst ([V.ref tt] ++ xs))) tl = some (.tup [aa, .ref sl]) ∧ (upd (upd (upd (upd Hw n9 (.lst [V.int 9])) tt (.tup [V.non, .ref n9])) ll (.lst [V.ref tt])) cc (.lst ([V.ref tt] ++ xs))) sl = some (.lst (.int near :: rest)) := by
        have hnc : xs = [] ∨ ∃ xs' v, xs = xs' ++ [v] := by
          rcases List.eq_nil_or_concat xs with h | ⟨xs', v, h⟩
          · exact .inl h
          · exact .inr ⟨xs', v, by rw [h, List.concat_eq_append]⟩
        rcases hnc with rfl | ⟨xs', v, rfl⟩
        · exact ⟨tt, n9, .non, 9, [], by decide, atI_last [] _, (b3.trans b4) _ _ upd_same, ((b2.trans b3).trans b4) _ _ upd_same⟩
        · obtain ⟨b', r, rfl, t, p, s, rfl, h1', h2', h3', _, h5'⟩ := paired_last hx
          exact ⟨t, s, _, r.keep, _, h5'.keep, by rw [← List.append_assoc]; exact atI_last _ _, sb _ _ h1', sb _ _ h3'⟩
      have et1 : atI [aa, V.ref sl] 1 = some (.ref sl) := rfl
      have es1 : atI (V.int near :: rest) 0 = some (.int near) := atI_nat (j := 0) rfl
      have hIb : IsW (upd (upd (upd (upd Hw n9 (.lst [V.int 9])) tt (.tup [V.non, .ref n9])) ll (.lst [V.ref tt])) cc (.lst ([V.ref tt] ++ xs))) W := by
        obtain ⟨x1, x2, x3, x4⟩ := hI0
        exact ⟨x1, x2, x3, b14 _ _ x4⟩
      have ecc : (upd (upd (upd (upd Hw n9 (.lst [V.int 9])) tt (.tup [V.non, .ref n9])) ll (.lst [V.ref tt])) cc (.lst ([V.ref tt] ++ xs))) cc = some (.lst ([V.ref tt] ++ xs)) := upd_same
      generalize upd (upd (upd (upd Hw n9 (.lst [V.int 9])) tt (.tup [V.non, .ref n9])) ll (.lst [V.ref tt])) cc (.lst ([V.ref tt] ++ xs)) = H1 at *
      refine ⟨1, rfl, cc, _, -1, _, rfl, rfl, SqL.of ecc, ea, tl, _, 1, _, rfl, rfl, SqT.of et0, et1, sl, _, 0, _, rfl, rfl, SqL.of es0, es1, W, near, rfl, n0, hIb, fun t p s r H2 x2 nt np nsl et ep es pr => ?_⟩
      have nWt : t ≠ W := fun z => (hIb.ne (by rw [← z]; exact nt)) rfl
      have nWp : p ≠ W := fun z => (hIb.ne (by rw [← z]; exact np)) rfl
      have nWs : s ≠ W := fun z => (hIb.ne (by rw [← z]; exact nsl)) rfl
      have e12 := x2.keep _ _ nW1 (sb _ _ e1)
      have e22 := x2.keep _ _ nW2 (sb _ _ e2)
      have ns1 : s ≠ L1 := fun z => by rw [z, sb _ _ e1] at nsl; cases nsl
      refine ⟨L1, _, _, rfl, rfl, e12, szlt (by omega), ?_⟩
      -- the wish
      have e22u : (upd H2 L1 (.lst (xs ++ [.ref t]))) L2 = some (.lst ys) := by rw [upd_ne nL.symm]; exact e22
      have hIu : IsW (upd H2 L1 (.lst (xs ++ [.ref t]))) W := by
        obtain ⟨x1, x2, x3, x4⟩ := x2.well
        exact ⟨x1, x2, x3, by rw [upd_ne nW1.symm]; exact x4⟩
      have k1 : atI [V.ref p, .ref s] 1 = some (.ref s) := rfl
      have k2 : atI [V.int r.keep, .int (r.keep + r.worn), .int (r.keep + r.alone)] 0 = some (.int r.keep) := rfl
      have ntL : t ≠ L1 := fun z => by rw [z, sb _ _ e1] at nt; cases nt
      refine ⟨.ref L2, rfl, .inl ⟨rfl, _, SqL.of e22u⟩, .ref W, rfl, .ref L1, rfl, 1, rfl, L1, _, -1, _, rfl, rfl, SqL.of upd_same, atI_last _ _, t, _, 1, _, rfl, rfl, SqT.of (by rw [upd_ne ntL]; exact et), k1, s, _, 0, _, rfl, rfl, SqL.of (by rw [upd_ne ns1]; exact es), k2, W, r.keep, rfl, pr.keep, hIu, fun t' p' m b wi mms x y H3 x3 m1 m2 m3 m4 et' ep' em lm eb pw => ?_⟩
      have e23 := x3.keep _ _ nW2 e22u
      refine ⟨L2, _, _, rfl, rfl, e23, szlt (by omega), ?_, rs ++ [r], ws ++ [wi], _, _, turnA e1 hx e2 hy l1 l2 nL hW (fun b o h => sb b o h) x2.keep nt np nsl et ep es pr nWt nWp nWs x3.keep m1 m2 m3 m4 et' ep' em lm eb pw, rfl⟩
      rw [upd_ne n42]
      exact x3.keep _ _ nW4 (by rw [upd_ne n41]; exact x2.keep _ _ nW4 (sb _ _ e4))
    · rintro σ H0 ⟨e4, rs, ws, y3, y4, rows, rfl⟩
      obtain ⟨⟨xs, e1, hx⟩, ⟨ys, e2, hy⟩, l1, l2⟩ := rows
      rw [List.length_map] at l1 l2
      have lx : xs.length = cells.length := (Paired.length hx).trans l1
      have ly : ys.length = cells.length := (Paired.length hy).trans l2
      refine ⟨.ref L1, rfl, L1, _, rfl, .inl (SqL.of e1), (by show 3 ≤ sizeLine; decide), fun pm hpm => ?_⟩
      have sm := same_upd (o := .lst [V.int 2, .int 3, .int ((xs.length : Nat) : Int)]) hpm
      have epm : (upd H0 pm (.lst [V.int 2, .int 3, .int ((xs.length : Nat) : Int)])) pm = some (.lst (([2, 3, ((xs.length : Nat) : Int)] : List Int).map V.int)) := upd_same
      generalize upd H0 pm (.lst [V.int 2, .int 3, .int ((xs.length : Nat) : Int)]) = Hm at *
      have e1m := sm _ _ e1
      have e2m := sm _ _ e2
      have hxm : Paired (RRow T.C_Rule [] Hm) xs rs := rrows_mono (k0 sm) (Paired.mono (fun _ _ => RRow.weak) hx)
      have hym : Paired (WRow T.C_Wish [] Hm) ys ws := wrows_mono (k0 sm) (Paired.mono (fun _ _ => WRow.weak) hy)
      clear hx hy e1 e2 sm e4
      refine ⟨3, rfl, by decide, by decide, for_range (lo := 0) (n := 3) (fun i σ H' => Same Hm H' ∧ ∃ z6 z7 z8 z9 z10 z11 z12 z13 z14, σ = [some (.ref sc), some (.ref L1), some (.ref L2), y3, y4, some (.ref pm), z6, z7, z8, z9, z10, z11, z12, z13, z14, none]) ⟨Same.refl _, none, none, none, none, none, none, none, none, none, rfl⟩ ?_ ?_⟩
      · rintro i σ H1 hi ⟨s1', z6, z7, z8, z9, z10, z11, z12, z13, z14, rfl⟩
        obtain ⟨m, m2, mn, im, i3, em⟩ : ∃ m : Nat, 2 ≤ m ∧ m ≤ cells.length ∧ i < m ∧ (i < 2 → m ≤ 3) ∧ atI (([2, 3, ((xs.length : Nat) : Int)] : List Int).map V.int) (0 + (i : Int)) = some (.int (m : Int)) := by
          have : i = 0 ∨ i = 1 ∨ i = 2 := by omega
          rcases this with rfl | rfl | rfl
          · exact ⟨2, by omega, by omega, by omega, fun _ => by omega, rfl⟩
          · exact ⟨3, by omega, by omega, by omega, fun _ => by omega, rfl⟩
          · exact ⟨xs.length, by omega, by omega, by omega, fun h => by omega, rfl⟩
        -- the rules
        refine ⟨.ref L1, rfl, .ref pm, rfl, _, rfl, pm, _, _, _, rfl, rfl, SqL.of (s1' _ _ epm), em, (m : Int), rfl, L1, _, rfl, SqL.of (s1' _ _ e1m), fun c1 hc1 => ?_⟩
        rw [cut_upto]
        have q1 := same_upd (o := .lst (xs.take m)) hc1
        have ec1 : (upd H1 c1 (.lst (xs.take m))) c1 = some (.lst (xs.take m)) := upd_same
        generalize upd H1 c1 (.lst (xs.take m)) = H2 at *
        have r2 := s1'.trans q1
        refine ⟨c1, rfl, ⟨_, SqL.of ec1⟩, fun D hD => ?_⟩
        refine lc_list (K := K) (a := c1) (xs := xs.take m) (fun j H' => Same H2 H' ∧ ∃ zs, H' D = some (.lst zs) ∧ zs.length = j ∧ Paired (RV T.C_Rule Hm) zs ((rs.take m).take j)) ⟨same_upd hD, [], upd_same, rfl, .nil⟩ (fun j H' _ pv => SqL.of (pv.1 _ _ ec1)) ?_ ?_
        · rintro j v H3 hj ⟨s3, zs, eD, lz, hz⟩
          obtain ⟨r, hr', t, p, s, rfl, ht, hp, _⟩ := paired_at (map_at hxm) hj
          have hjl : j < (xs.take m).length := (List.getElem?_eq_some_iff.mp hj).1
          rw [List.length_take] at hjl
          have a0 : atI [V.ref p, .ref s] 0 = some (.ref p) := rfl
          refine ⟨rfl, .ref t, rfl, t, _, 0, _, rfl, rfl, SqT.of ((r2.trans s3) _ _ ht), a0, zs, eD, szlt (by omega), same_mut s3 hD, zs ++ [.ref p], upd_same, by rw [List.length_append, lz]; rfl, ?_⟩
          have := take_map (fun r : RuleR => r) hr'
          rw [List.map_id', List.map_id'] at this
          rw [this]
          exact paired_app hz (.cons ⟨p, rfl, hp⟩ .nil)
        rintro H3 ⟨s3, zs, eD, lz, hz⟩
        rw [List.length_take, lx, Nat.min_eq_left mn] at lz
        have lrm : (rs.take m).length = m := by rw [List.length_take]; omega
        have lwm : (ws.take m).length = m := by rw [List.length_take]; omega
        rw [show (xs.take m).length = m by rw [List.length_take]; omega, List.take_of_length_le (Nat.le_of_eq lrm)] at hz
        have r3 := r2.trans s3
        -- the wishes
        refine ⟨.ref L2, rfl, .ref pm, rfl, _, rfl, pm, _, _, _, rfl, rfl, SqL.of (r3 _ _ epm), em, (m : Int), rfl, L2, _, rfl, SqL.of (r3 _ _ e2m), fun c2 hc2 => ?_⟩
        rw [cut_upto]
        have q4 := same_upd (o := .lst (ys.take m)) hc2
        have ec2 : (upd H3 c2 (.lst (ys.take m))) c2 = some (.lst (ys.take m)) := upd_same
        have eD4 := q4 _ _ eD
        generalize upd H3 c2 (.lst (ys.take m)) = H4 at *
        have r4 := r3.trans q4
        refine ⟨c2, rfl, ⟨_, SqL.of ec2⟩, fun E hE => ?_⟩
        refine lc_list (K := K) (a := c2) (xs := ys.take m) (fun j H' => Same H4 H' ∧ ∃ us, H' E = some (.lst us) ∧ us.length = j ∧ Paired (WV T.C_Wish Hm) us ((ws.take m).take j)) ⟨same_upd hE, [], upd_same, rfl, .nil⟩ (fun j H' _ pv => SqL.of (pv.1 _ _ ec2)) ?_ ?_
        · rintro j v H5 hj ⟨s5, us, eE, lu, hu⟩
          obtain ⟨r, hr', t, p, mm, b, mms, x, y, rfl, ht, hp, _⟩ := paired_at (map_at hym) hj
          have hjl : j < (ys.take m).length := (List.getElem?_eq_some_iff.mp hj).1
          rw [List.length_take] at hjl
          have a0 : atI [V.ref p, .ref mm, .ref b] 0 = some (.ref p) := rfl
          refine ⟨rfl, .ref t, rfl, t, _, 0, _, rfl, rfl, SqT.of ((r4.trans s5) _ _ ht), a0, us, eE, szlt (by omega), same_mut s5 hE, us ++ [.ref p], upd_same, by rw [List.length_append, lu]; rfl, ?_⟩
          have := take_map (fun r : WishR => r) hr'
          rw [List.map_id', List.map_id'] at this
          rw [this]
          exact paired_app hu (.cons ⟨p, rfl, hp⟩ .nil)
        rintro H5 ⟨s5, us, eE, lu, hu⟩
        rw [List.length_take, ly, Nat.min_eq_left mn] at lu
        rw [show (ys.take m).length = m by rw [List.length_take]; omega, List.take_of_length_le (Nat.le_of_eq lwm)] at hu
        have r5 := r4.trans s5
        have eD5 := s5 _ _ eD4
        have posr : ∀ r ∈ rs.take m, posR r := fun r hr' => by
          obtain ⟨j, hj⟩ := List.mem_iff_getElem?.mp hr'
          have hjl := (List.getElem?_eq_some_iff.mp hj).1
          obtain ⟨v, hv⟩ : ∃ v, (xs.take m)[j]? = some v := ⟨(xs.take m)[j]'(by rw [List.length_take]; omega), List.getElem?_eq_getElem (by rw [List.length_take]; omega)⟩
          obtain ⟨r', h1', t, p, s, _, _, _, _, _, h5'⟩ := paired_at (map_at hxm) hv
          rw [hj] at h1'
          cases h1'
          exact h5'
        have posw : ∀ r ∈ ws.take m, posW r := fun r hr' => by
          obtain ⟨j, hj⟩ := List.mem_iff_getElem?.mp hr'
          have hjl := (List.getElem?_eq_some_iff.mp hj).1
          obtain ⟨v, hv⟩ : ∃ v, (ys.take m)[j]? = some v := ⟨(ys.take m)[j]'(by rw [List.length_take]; omega), List.getElem?_eq_getElem (by rw [List.length_take]; omega)⟩
          obtain ⟨r', h1', t, p, mm, b, mms, x, y, _, _, _, _, _, _, _, _, h8'⟩ := paired_at (map_at hym) hv
          rw [hj] at h1'
          cases h1'
          exact h8'
        have hxt := map_at (n := m) hxm
        have hyt := map_at (n := m) hym
        generalize rs.take m = RS at *
        generalize ws.take m = WS at *
        have lzr : zs.length = RS.length := Paired.length hz
        have luw : us.length = WS.length := Paired.length hu
        obtain ⟨r0, rr, rfl⟩ : ∃ r0 rr, RS = r0 :: rr := by
          cases RS with
          | nil => simp at lrm; omega
          | cons a b => exact ⟨a, b, rfl⟩
        obtain ⟨w0, wr, rfl⟩ : ∃ w0 wr, WS = w0 :: wr := by
          cases WS with
          | nil => simp at lwm; omega
          | cons a b => exact ⟨a, b, rfl⟩
        obtain ⟨v0, vv, rfl⟩ : ∃ v0 vv, zs = v0 :: vv := by
          cases zs with
          | nil => simp at lzr
          | cons a b => exact ⟨a, b, rfl⟩
        obtain ⟨u0, uu, rfl⟩ : ∃ v0 vv, us = v0 :: vv := by
          cases us with
          | nil => simp at luw
          | cons a b => exact ⟨a, b, rfl⟩
        obtain ⟨x0, rfl, hx0⟩ : RV T.C_Rule Hm v0 r0 := by cases hz; assumption
        obtain ⟨y0, rfl, hy0⟩ : WV T.C_Wish Hm u0 w0 := by cases hu; assumption
        have hzt : Paired (RV T.C_Rule Hm) vv rr := by cases hz; assumption
        have hut : Paired (WV T.C_Wish Hm) uu wr := by cases hu; assumption
        have lvr : vv.length = rr.length := Paired.length hzt
        have luu : uu.length = wr.length := Paired.length hut
        simp only [List.length_cons] at lrm lwm lz lu
        have d0 : atI (V.ref x0 :: vv) 0 = some (.ref x0) := atI_nat (j := 0) rfl
        have f0 : atI (V.ref y0 :: uu) 0 = some (.ref y0) := atI_nat (j := 0) rfl
        refine ⟨.ref D, rfl, D, _, 0, _, rfl, rfl, SqL.of eD5, d0, .ref E, rfl, E, _, 0, _, rfl, rfl, SqL.of eE, f0, ?_⟩
        -- put together
        refine ⟨.ref D, rfl, 1, rfl, D, _, rfl, SqL.of eD5, fun c3 hc3 => ?_⟩
        rw [show (1 : Int) = ((1 : Nat) : Int) from rfl, cut_from (n := 1) (by simp), show (V.ref x0 :: vv).drop 1 = vv from rfl]
        have q6 := same_upd (o := .lst vv) hc3
        have ec3 : (upd H5 c3 (.lst vv)) c3 = some (.lst vv) := upd_same
        generalize upd H5 c3 (.lst vv) = H6 at *
        have r6 := r5.trans q6
        refine ⟨c3, rfl, ⟨_, SqL.of ec3⟩, for_list (K := K) (a := c3) (xs := vv) (fun j σ H' => Same H6 H' ∧ ∃ (x : Addr) (y11 : Option V), RuleAt T.C_Rule H' x (allR r0 (rr.take j)) ∧ σ = [some (.ref sc), some (.ref L1), some (.ref L2), y3, y4, some (.ref pm), some (.int (0 + (i : Int))), some (.ref D), some (.ref E), some (.ref x), some (.ref y0), y11, z12, z13, z14, none])
          ⟨Same.refl _, x0, z11, hx0.mono r6, rfl⟩ (fun j σ H' _ pv => SqL.of (pv.1 _ _ ec3)) ?_ ?_⟩
        · rintro j v σ H7 hj ⟨s7, x, y11, hR, rfl⟩
          obtain ⟨r, hr', o, rfl, ho⟩ := paired_at hzt hj
          obtain ⟨dx, hxx⟩ := id hR
          refine ⟨.ref x, rfl, x, dx, _, rfl, hxx, fR_both _, .ref o, rfl, x, o, _, r, rfl, hR, ho.mono (r6.trans s7), fun x' H8 nx' s8 hx' => ⟨s7.trans s8, x', _, ?_, rfl⟩⟩
          have := take_map (fun r : RuleR => r) hr'
          rw [List.map_id', List.map_id'] at this
          unfold allR
          rw [this, List.foldl_append]
          exact hx'
        rintro σ H7 ⟨s7, X, y11, hX, rfl⟩
        rw [lvr, List.take_length] at hX
        have r7 := r6.trans s7
        have eE7 := (q6.trans s7) _ _ eE
        have eD7 := (q6.trans s7) _ _ eD5
        refine ⟨.ref E, rfl, 1, rfl, E, _, rfl, SqL.of eE7, fun c4 hc4 => ?_⟩
        rw [show (1 : Int) = ((1 : Nat) : Int) from rfl, cut_from (n := 1) (by simp), show (V.ref y0 :: uu).drop 1 = uu from rfl]
        have q8 := same_upd (o := .lst uu) hc4
        have ec4 : (upd H7 c4 (.lst uu)) c4 = some (.lst uu) := upd_same
        generalize upd H7 c4 (.lst uu) = H8 at *
        have r8 := r7.trans q8
        refine ⟨c4, rfl, ⟨_, SqL.of ec4⟩, for_list (K := K) (a := c4) (xs := uu) (fun j σ H' => Same H8 H' ∧ ∃ (y : Addr) (y11 : Option V), WishAt T.C_Wish H' y (allW w0 (wr.take j)) ∧ σ = [some (.ref sc), some (.ref L1), some (.ref L2), y3, y4, some (.ref pm), some (.int (0 + (i : Int))), some (.ref D), some (.ref E), some (.ref X), some (.ref y), y11, z12, z13, z14, none])
          ⟨Same.refl _, y0, y11, hy0.mono r8, rfl⟩ (fun j σ H' _ pv => SqL.of (pv.1 _ _ ec4)) ?_ ?_⟩
        · rintro j v σ H9 hj ⟨s9, y, y11', hWw, rfl⟩
          obtain ⟨r, hr', o, rfl, ho⟩ := paired_at hut hj
          have ho9 := ho.mono (r8.trans s9)
          obtain ⟨dx, hxx⟩ := id ho9
          refine ⟨.ref o, rfl, o, dx, _, rfl, hxx, fW_both _, .ref y, rfl, o, y, r, _, rfl, ho9, hWw, fun x' HA' nx' s10 hx' => ⟨s9.trans s10, x', _, ?_, rfl⟩⟩
          have := take_map (fun r : WishR => r) hr'
          rw [List.map_id', List.map_id'] at this
          unfold allW
          rw [this, List.foldl_append]
          exact hx'
        rintro σ H9 ⟨s9, Y, y11', hY, rfl⟩
        rw [luu, List.take_length] at hY
        have r9 := r8.trans s9
        have eD9 := (q8.trans s9) _ _ eD7
        have eE9 := (q8.trans s9) _ _ eE7
        have hX9 := hX.mono (q8.trans s9)
        -- turned
        obtain ⟨vi, vl, hvi⟩ : ∃ vi vl, V.ref x0 :: vv = vi ++ [vl] := ⟨_, _, (List.dropLast_concat_getLast (by simp)).symm⟩
        rw [hvi] at hz
        obtain ⟨ri, rl, hri, xl, rfl, hxl⟩ := paired_last hz
        have hzi : Paired (RV T.C_Rule Hm) vi ri := by
          have := map_at (n := vi.length) hz
          rw [List.take_left, hri] at this
          have e : ri.length = vi.length := by
            have := Paired.length hz
            rw [hri, List.length_append, List.length_append] at this
            simp only [List.length_cons, List.length_nil] at this
            omega
          rwa [← e, List.take_left] at this
        have lvi : vi.length = ri.length := Paired.length hzi
        refine ⟨.ref D, rfl, 1, rfl, D, _, -1, _, rfl, rfl, SqL.of eD9, by rw [hvi]; exact atI_last _ _, ?_⟩
        refine ⟨.ref D, rfl, 1, rfl, _, rfl, D, _, rfl, SqL.of eD9, fun c5 hc5 => ?_⟩
        rw [show cutV (V.ref x0 :: vv) none (some (-1)) = vi by rw [hvi]; exact cut_init _ _]
        have q10 := same_upd (o := .lst vi) hc5
        have ec5 : (upd H9 c5 (.lst vi)) c5 = some (.lst vi) := upd_same
        generalize upd H9 c5 (.lst vi) = H10 at *
        have r10 := r9.trans q10
        refine ⟨c5, rfl, ⟨_, SqL.of ec5⟩, for_list (K := K) (a := c5) (xs := vi) (fun j σ H' => Same H10 H' ∧ ∃ (x : Addr) (y11 : Option V), RuleAt T.C_Rule H' x ((ri.take j).foldl (fun t o => bothR o t) rl) ∧ σ = [some (.ref sc), some (.ref L1), some (.ref L2), y3, y4, some (.ref pm), some (.int (0 + (i : Int))), some (.ref D), some (.ref E), some (.ref X), some (.ref Y), y11, some (.ref x), z13, z14, none])
          ⟨Same.refl _, xl, y11', hxl.mono r10, rfl⟩ (fun j σ H' _ pv => SqL.of (pv.1 _ _ ec5)) ?_ ?_⟩
        · rintro j v σ H11 hj ⟨s11, x, y11'', hR, rfl⟩
          obtain ⟨r, hr', o, rfl, ho⟩ := paired_at hzi hj
          have ho9 := ho.mono (r10.trans s11)
          obtain ⟨dx, hxx⟩ := id ho9
          refine ⟨.ref o, rfl, o, dx, _, rfl, hxx, fR_both _, .ref x, rfl, o, x, r, _, rfl, ho9, hR, fun x' H12 nx' s12 hx' => ⟨s11.trans s12, x', _, ?_, rfl⟩⟩
          have := take_map (fun r : RuleR => r) hr'
          rw [List.map_id', List.map_id'] at this
          rw [this, List.foldl_append]
          exact hx'
        rintro σ H11 ⟨s11, Xt, y11'', hXt, rfl⟩
        rw [lvi, List.take_length] at hXt
        have eturn : ri.foldl (fun t o => bothR o t) rl = allR r0 rr := by
          cases ri with
          | nil =>
            have := congrArg List.length hri
            simp only [List.length_cons, List.nil_append, List.length_nil] at this
            omega
          | cons a l =>
            rw [List.cons_append] at hri
            obtain ⟨h1', h2'⟩ := List.cons.inj hri
            rw [turned, h1', h2']
        rw [eturn] at hXt
        have q11 := q10.trans s11
        have r11 := r9.trans q11
        have hX11 := hX9.mono q11
        have hY11 := hY.mono q11
        have eD11 := q11 _ _ eD9
        have eE11 := q11 _ _ eE9
        have lR := allR_le rr r0
        have lW := allW_le wr w0
        have pW := allW_pos wr w0 (posw w0 (List.mem_cons_self ..)) fun s hs => posw s (List.mem_cons_of_mem _ hs)
        -- the ages
        refine ⟨.ref L1, rfl, .ref pm, rfl, _, rfl, pm, _, _, _, rfl, rfl, SqL.of (r11 _ _ epm), em, (m : Int), rfl, L1, _, rfl, SqL.of (r11 _ _ e1m), fun c6 hc6 => ?_⟩
        rw [cut_upto]
        have q12 := same_upd (o := .lst (xs.take m)) hc6
        have r12 := r11.trans q12
        refine ⟨.ref L2, rfl, .ref pm, rfl, _, rfl, pm, _, _, _, rfl, rfl, SqL.of (r12 _ _ epm), em, (m : Int), rfl, L2, _, rfl, SqL.of (r12 _ _ e2m), fun c7 hc7 => ?_⟩
        rw [cut_upto]
        have q13 := same_upd (o := .lst (ys.take m)) hc7
        have r13 := r12.trans q13
        refine ⟨c6, c7, _, _, _, _, rfl, q13 _ _ upd_same, rrows_mono (k0 r13) hxt, upd_same, wrows_mono (k0 r13) hyt, by simp only [List.length_cons]; omega, by simp only [List.length_cons]; omega, fun pa as H14 s14 ea sas has las => ?_⟩
        have q14 := (q12.trans q13).trans s14
        have r14 := r11.trans q14
        have hX14 := hX11.mono q14
        have hY14 := hY11.mono q14
        have hT14 := hXt.mono q14
        have eD14 := q14 _ _ eD11
        have eE14 := q14 _ _ eE11
        -- they fall
        obtain ⟨vk, rk, hvk, hrk⟩ : ∃ vk rk, (V.ref x0 :: vv)[i]? = some vk ∧ (r0 :: rr)[i]? = some rk := ⟨_, _, List.getElem?_eq_getElem (by simp only [List.length_cons]; omega), List.getElem?_eq_getElem (by simp only [List.length_cons]; omega)⟩
        obtain ⟨uk, wk, huk, hwk⟩ : ∃ vk rk, (V.ref y0 :: uu)[i]? = some vk ∧ (w0 :: wr)[i]? = some rk := ⟨_, _, List.getElem?_eq_getElem (by simp only [List.length_cons]; omega), List.getElem?_eq_getElem (by simp only [List.length_cons]; omega)⟩
        rw [← hvi] at hz
        obtain ⟨_, g1, xk, rfl, hxk⟩ := paired_at hz hvk
        rw [hrk] at g1
        cases g1
        obtain ⟨_, g2, yk, rfl, hyk⟩ := paired_at hu huk
        rw [hwk] at g2
        cases g2
        have ak : atI (V.ref x0 :: vv) (0 + (i : Int)) = some (.ref xk) := by
          rw [Int.zero_add]
          exact atI_nat hvk
        have bk : atI (V.ref y0 :: uu) (0 + (i : Int)) = some (.ref yk) := by
          rw [Int.zero_add]
          exact atI_nat huk
        refine ⟨fun b H' => b = false ∧ Same H14 H', ?_, fun b H' hb => ?_⟩
        · refine ⟨.ref X, rfl, .ref Y, rfl, .ref pa, rfl, X, Y, pa, _, _, as, rfl, hX14, hY14, pW, ea, sas, has, las, fun H15 s15 => ⟨true, rfl, ?_⟩⟩
          refine ⟨.ref D, rfl, _, rfl, D, _, _, _, rfl, rfl, SqL.of (s15 _ _ eD14), ak, .ref E, rfl, _, rfl, E, _, _, _, rfl, rfl, SqL.of (s15 _ _ eE14), bk, .ref pa, rfl, xk, yk, pa, rk, wk, as, rfl, hxk.mono (r14.trans s15), hyk.mono (r14.trans s15), posw wk (List.mem_of_getElem? hwk), s15 _ _ ea, sas, has, las, fun H16 s16 => ⟨true, rfl, rfl, s15.trans s16⟩⟩
        obtain ⟨rfl, s15⟩ := hb
        have ea15 := s15 _ _ ea
        refine ⟨.ref pa, rfl, pa, rfl, ⟨_, SqL.of ea15⟩, for_list (K := K) (a := pa) (xs := as.map V.int) (fun j σ H'' => Same H' H'' ∧ ∃ y14', σ = [some (.ref sc), some (.ref L1), some (.ref L2), y3, y4, some (.ref pm), some (.int (0 + (i : Int))), some (.ref D), some (.ref E), some (.ref X), some (.ref Y), y11'', some (.ref Xt), some (.ref pa), y14', none])
          ⟨Same.refl _, z14, rfl⟩ (fun j σ H'' _ pv => SqL.of (pv.1 _ _ ea15)) ?_ ?_⟩
        · rintro j v σ H16 hj ⟨s16, y14', rfl⟩
          obtain ⟨age, rfl⟩ := int_at hj
          have ain : age ∈ as := by
            obtain ⟨y, hy, e⟩ := List.mem_map.mp (List.mem_of_getElem? hj)
            cases e
            exact hy
          have q16 := s15.trans s16
          have hX16 := hX14.mono q16
          have hY16 := hY14.mono q16
          refine ⟨.ref X, rfl, .ref Y, rfl, .int age, rfl, X, Y, _, _, age, rfl, hX16, hY16, .ref Xt, rfl, .ref Y, rfl, .int age, rfl, Xt, Y, _, _, age, rfl, hT14.mono q16, hY16, rfl, false, by rw [decide_eq_true rfl]; rfl, ?_⟩
          refine ⟨.ref X, rfl, .ref Y, rfl, .ref D, rfl, 3, rfl, D, _, rfl, SqL.of (q16 _ _ eD14), fun c8 hc8 => ?_⟩
          rw [show (3 : Int) = ((3 : Nat) : Int) from rfl, cut_upto]
          have q17 := same_upd (o := .lst ((V.ref x0 :: vv).take 3)) hc8
          refine ⟨.ref E, rfl, 3, rfl, E, _, rfl, SqL.of ((q16.trans q17) _ _ eE14), fun c9 hc9 => ?_⟩
          rw [show (3 : Int) = ((3 : Nat) : Int) from rfl, cut_upto]
          have q18 := same_upd (o := .lst ((V.ref y0 :: uu).take 3)) hc9
          have q1618 := (q16.trans q17).trans q18
          have r18 := r14.trans q1618
          refine ⟨.int age, rfl, _, rfl, _, _, rfl, rfl, X, Y, c8, c9, age, decide (0 + (i : Int) < 2), _, _, _, _, (r0 :: rr).take 3, (w0 :: wr).take 3, rfl, hX14.mono q1618, hY14.mono q1618, q18 _ _ upd_same, rvs_mono r18 (map_at hz), upd_same, wvs_mono r18 (map_at hu), by rw [List.length_take]; omega, by rw [List.length_take]; omega, fun r hr' => ?_, fun w hw' => ?_, pW, fun w hw' => posw w (List.mem_of_mem_take hw'), has age ain, fun e hall => ?_, fun H19 s19 => ?_⟩
          · rcases List.mem_cons.mp (List.mem_of_mem_take hr') with rfl | h
            · exact lR.1
            · exact lR.2 r h
          · rcases List.mem_cons.mp (List.mem_of_mem_take hw') with rfl | h
            · exact lW.1
            · exact lW.2 w h
          · have i2 : i < 2 := by
              have : 0 + (i : Int) < 2 := of_decide_eq_true e
              omega
            have m3 := i3 i2
            rw [List.take_of_length_le (by simp only [List.length_cons]; omega), List.take_of_length_le (by simp only [List.length_cons]; omega)] at hall
            rw [allR_fr, allW_fr]
            refine ⟨⟨hall r0 (List.mem_cons_self ..) w0 (List.mem_cons_self ..), fun s hs => hall r0 (List.mem_cons_self ..) s (List.mem_cons_of_mem _ hs)⟩, fun r hr' => ?_⟩
            rw [allW_fr]
            exact ⟨hall r (List.mem_cons_of_mem _ hr') w0 (List.mem_cons_self ..), fun s hs => hall r (List.mem_cons_of_mem _ hr') s (List.mem_cons_of_mem _ hs)⟩
          · exact ⟨true, rfl, s16.trans ((q17.trans q18).trans s19), _, rfl⟩
        · rintro σ H16 ⟨s16, y14', rfl⟩
          exact ⟨r14.trans (s15.trans s16), _, _, _, _, _, _, _, _, _, rfl⟩
      · rintro σ H1 ⟨s1', z6, z7, z8, z9, z10, z11, z12, z13, z14, rfl⟩
        exact q _
end
end My
namespace My
open PySem PySem.Spec PyProof.Rows L2 TL
theorem all_mk {l : PySem.W.OpenLaw} {w : World} {K : PySem.W.Frag} {h : Heap} {mg : Str → Option Value} {fa : Addr} (X : K.In h) (G : h.Ns mainGlobals mg) (hfa : mg "law" = some (.ref fa))
    {C_Rule : Addr} (aC_Rule : PySem.W.nsIn K mainGlobals "Rule" = some (some (.ref C_Rule))) (pg_Rule : PySem.W.plainGet K C_Rule Str.empty = true) (hd_Rule : PySem.W.hasDictIn K C_Rule = true) (po_Rule : PySem.W.plainOver K C_Rule = true) (sa_Rule : PySem.W.findIn K (.ref C_Rule) "__setattr__" = some (some (.builtin "object.__setattr__")))
    (mk_Rule : PySem.W.makesIn K C_Rule = true) (kc_Rule : PySem.W.keepIn K (.ref C_Rule) = true)
    (n_Rule_keep : PySem.W.findIn K (.ref C_Rule) "keep" = some none)
    (n_Rule_worn : PySem.W.findIn K (.ref C_Rule) "worn" = some none)
    (n_Rule_alone : PySem.W.findIn K (.ref C_Rule) "alone" = some none)
    (n_Rule_anew : PySem.W.findIn K (.ref C_Rule) "anew" = some none)
    (n_Rule_own : PySem.W.findIn K (.ref C_Rule) "own" = some none)
    (n_Rule_common : PySem.W.findIn K (.ref C_Rule) "common" = some none)
    (n_Rule_never : PySem.W.findIn K (.ref C_Rule) "never" = some none)
    (n_Rule_strict : PySem.W.findIn K (.ref C_Rule) "strict" = some none)
    {C_Wish : Addr} (aC_Wish : PySem.W.nsIn K mainGlobals "Wish" = some (some (.ref C_Wish))) (pg_Wish : PySem.W.plainGet K C_Wish Str.empty = true) (hd_Wish : PySem.W.hasDictIn K C_Wish = true) (po_Wish : PySem.W.plainOver K C_Wish = true) (sa_Wish : PySem.W.findIn K (.ref C_Wish) "__setattr__" = some (some (.builtin "object.__setattr__")))
    (mk_Wish : PySem.W.makesIn K C_Wish = true) (kc_Wish : PySem.W.keepIn K (.ref C_Wish) = true)
    (n_Wish_atmost : PySem.W.findIn K (.ref C_Wish) "atmost" = some none)
    (n_Wish_left : PySem.W.findIn K (.ref C_Wish) "left" = some none)
    (n_Wish_worn : PySem.W.findIn K (.ref C_Wish) "worn" = some none)
    (n_Wish_anew : PySem.W.findIn K (.ref C_Wish) "anew" = some none)
    (n_Wish_kept : PySem.W.findIn K (.ref C_Wish) "kept" = some none)
    (n_Wish_firm : PySem.W.findIn K (.ref C_Wish) "firm" = some none)
    {f0 : Addr} {od0 an0 : Option Addr} {sl0 : Array (Option Value)} {oc0 kV0 dc0 pm0 cd0 ct0 : Value}
    (a0 : PySem.W.nsIn K mainGlobals "lesser" = some (some (.ref f0)))
    (l0 : K.lookup f0 = some ⟨oc0, od0, .func (PySem.W.fnOf "lesser" "lesser" (defArgs s_lesser) (defBody s_lesser) (defScope s_lesser) .none kV0 dc0 pm0 an0 cd0 ct0), sl0⟩) (c0 : PySem.W.codeIn K cd0 "lesser" = true) (k0 : PySem.W.keepIn K (.ref f0) = true)
    {f1 : Addr} {od1 an1 : Option Addr} {sl1 : Array (Option Value)} {oc1 kV1 dc1 pm1 cd1 ct1 : Value}
    (a1 : PySem.W.nsIn K mainGlobals "lets" = some (some (.ref f1)))
    (l1 : K.lookup f1 = some ⟨oc1, od1, .func (PySem.W.fnOf "lets" "lets" (defArgs s_lets) (defBody s_lets) (defScope s_lets) .none kV1 dc1 pm1 an1 cd1 ct1), sl1⟩) (c1 : PySem.W.codeIn K cd1 "lets" = true) (k1 : PySem.W.keepIn K (.ref f1) = true)
    {f2 : Addr} {od2 an2 : Option Addr} {sl2 : Array (Option Value)} {oc2 dc2 pm2 cd2 ct2 : Value} {D2 : Addr}
    (a2 : PySem.W.nsIn K mainGlobals "serves" = some (some (.ref f2)))
    (l2 : K.lookup f2 = some ⟨oc2, od2, .func (PySem.W.fnOf "serves" "serves" (defArgs s_serves) (defBody s_serves) (defScope s_serves) .none (.ref D2) dc2 pm2 an2 cd2 ct2), sl2⟩) (c2 : PySem.W.codeIn K cd2 "serves" = true) (k2 : PySem.W.keepIn K (.ref f2) = true)
    (y_serves_alone : PySem.W.nsIn K D2 "alone" = some (some (.bool false)))
    {f3 : Addr} {od3 an3 : Option Addr} {sl3 : Array (Option Value)} {oc3 kV3 dc3 pm3 cd3 ct3 : Value}
    (a3 : PySem.W.nsIn K mainGlobals "_law_well" = some (some (.ref f3)))
    (l3 : K.lookup f3 = some ⟨oc3, od3, .func (PySem.W.fnOf "_law_well" "_law_well" (defArgs s_law_well) (defBody s_law_well) (defScope s_law_well) .none kV3 dc3 pm3 an3 cd3 ct3), sl3⟩) (c3 : PySem.W.codeIn K cd3 "_law_well" = true) (k3 : PySem.W.keepIn K (.ref f3) = true)
    {f4 : Addr} {od4 an4 : Option Addr} {sl4 : Array (Option Value)} {oc4 kV4 dc4 pm4 cd4 ct4 : Value}
    (a4 : PySem.W.nsIn K mainGlobals "_law_draw" = some (some (.ref f4)))
    (l4 : K.lookup f4 = some ⟨oc4, od4, .func (PySem.W.fnOf "_law_draw" "_law_draw" (defArgs s_law_draw) (defBody s_law_draw) (defScope s_law_draw) .none kV4 dc4 pm4 an4 cd4 ct4), sl4⟩) (c4 : PySem.W.codeIn K cd4 "_law_draw" = true) (k4 : PySem.W.keepIn K (.ref f4) = true)
    {f5 : Addr} {od5 an5 : Option Addr} {sl5 : Array (Option Value)} {oc5 kV5 dc5 pm5 cd5 ct5 : Value}
    (a5 : PySem.W.nsIn K mainGlobals "_law_number" = some (some (.ref f5)))
    (l5 : K.lookup f5 = some ⟨oc5, od5, .func (PySem.W.fnOf "_law_number" "_law_number" (defArgs s_law_number) (defBody s_law_number) (defScope s_law_number) .none kV5 dc5 pm5 an5 cd5 ct5), sl5⟩) (c5 : PySem.W.codeIn K cd5 "_law_number" = true) (k5 : PySem.W.keepIn K (.ref f5) = true)
    {f6 : Addr} {od6 an6 : Option Addr} {sl6 : Array (Option Value)} {oc6 kV6 dc6 pm6 cd6 ct6 : Value}
    (a6 : PySem.W.nsIn K mainGlobals "_law_rule" = some (some (.ref f6)))
    (l6 : K.lookup f6 = some ⟨oc6, od6, .func (PySem.W.fnOf "_law_rule" "_law_rule" (defArgs s_law_rule) (defBody s_law_rule) (defScope s_law_rule) .none kV6 dc6 pm6 an6 cd6 ct6), sl6⟩) (c6 : PySem.W.codeIn K cd6 "_law_rule" = true) (k6 : PySem.W.keepIn K (.ref f6) = true)
    {f7 : Addr} {od7 an7 : Option Addr} {sl7 : Array (Option Value)} {oc7 kV7 dc7 pm7 cd7 ct7 : Value}
    (a7 : PySem.W.nsIn K mainGlobals "_law_wish" = some (some (.ref f7)))
    (l7 : K.lookup f7 = some ⟨oc7, od7, .func (PySem.W.fnOf "_law_wish" "_law_wish" (defArgs s_law_wish) (defBody s_law_wish) (defScope s_law_wish) .none kV7 dc7 pm7 an7 cd7 ct7), sl7⟩) (c7 : PySem.W.codeIn K cd7 "_law_wish" = true) (k7 : PySem.W.keepIn K (.ref f7) = true)
    {f8 : Addr} {od8 an8 : Option Addr} {sl8 : Array (Option Value)} {oc8 kV8 dc8 pm8 cd8 ct8 : Value}
    (a8 : PySem.W.nsIn K mainGlobals "_law_ages" = some (some (.ref f8)))
    (l8 : K.lookup f8 = some ⟨oc8, od8, .func (PySem.W.fnOf "_law_ages" "_law_ages" (defArgs s_law_ages) (defBody s_law_ages) (defScope s_law_ages) .none kV8 dc8 pm8 an8 cd8 ct8), sl8⟩) (c8 : PySem.W.codeIn K cd8 "_law_ages" = true) (k8 : PySem.W.keepIn K (.ref f8) = true)
    {f9 : Addr} {od9 an9 : Option Addr} {sl9 : Array (Option Value)} {oc9 kV9 dc9 pm9 cd9 ct9 : Value}
    (a9 : PySem.W.nsIn K mainGlobals "_law_falls" = some (some (.ref f9)))
    (l9 : K.lookup f9 = some ⟨oc9, od9, .func (PySem.W.fnOf "_law_falls" "_law_falls" (defArgs s_law_falls) (defBody s_law_falls) (defScope s_law_falls) .none kV9 dc9 pm9 an9 cd9 ct9), sl9⟩) (c9 : PySem.W.codeIn K cd9 "_law_falls" = true) (k9 : PySem.W.keepIn K (.ref f9) = true)
    {f10 : Addr} {od10 an10 : Option Addr} {sl10 : Array (Option Value)} {oc10 kV10 dc10 pm10 cd10 ct10 : Value}
    (a10 : PySem.W.nsIn K mainGlobals "_law_under" = some (some (.ref f10)))
    (l10 : K.lookup f10 = some ⟨oc10, od10, .func (PySem.W.fnOf "_law_under" "_law_under" (defArgs s_law_under) (defBody s_law_under) (defScope s_law_under) .none kV10 dc10 pm10 an10 cd10 ct10), sl10⟩) (c10 : PySem.W.codeIn K cd10 "_law_under" = true) (k10 : PySem.W.keepIn K (.ref f10) = true)
    {f11 : Addr} {od11 an11 : Option Addr} {sl11 : Array (Option Value)} {oc11 kV11 dc11 pm11 cd11 ct11 : Value}
    (a11 : PySem.W.nsIn K mainGlobals "law" = some (some (.ref f11)))
    (l11 : K.lookup f11 = some ⟨oc11, od11, .func (PySem.W.fnOf "law" "law" (defArgs s_law) (defBody s_law) (defScope s_law) .none kV11 dc11 pm11 an11 cd11 ct11), sl11⟩) (c11 : PySem.W.codeIn K cd11 "law" = true) (k11 : PySem.W.keepIn K (.ref f11) = true)
    {f12 : Addr} {od12 an12 : Option Addr} {sl12 : Array (Option Value)} {oc12 dc12 pm12 cd12 ct12 : Value} {D12 : Addr}
    (a12_Rule : PySem.W.findIn K (.ref C_Rule) "__init__" = some (some (.ref f12)))
    (i12 : PySem.W.isFn K (.ref f12) = true)
    (l12 : K.lookup f12 = some ⟨oc12, od12, .func (PySem.W.fnOf "__init__" "Rule.__init__" (defArgs s_Rule_init) (defBody s_Rule_init) (defScope s_Rule_init) .none (.ref D12) dc12 pm12 an12 cd12 ct12), sl12⟩) (c12 : PySem.W.codeIn K cd12 "Rule.__init__" = true) (k12 : PySem.W.keepIn K (.ref f12) = true)
    {tk_Rule_init_keep : Tok}
    (y_Rule_init_keep : PySem.W.nsIn K D12 "keep" = some (some (.int 0 tk_Rule_init_keep)))
    {tk_Rule_init_worn : Tok}
    (y_Rule_init_worn : PySem.W.nsIn K D12 "worn" = some (some (.int 0 tk_Rule_init_worn)))
    {tk_Rule_init_alone : Tok}
    (y_Rule_init_alone : PySem.W.nsIn K D12 "alone" = some (some (.int 0 tk_Rule_init_alone)))
    (y_Rule_init_anew : PySem.W.nsIn K D12 "anew" = some (some (.bool false)))
    (y_Rule_init_own : PySem.W.nsIn K D12 "own" = some (some (.bool false)))
    (y_Rule_init_common : PySem.W.nsIn K D12 "common" = some (some (.bool false)))
    (y_Rule_init_never : PySem.W.nsIn K D12 "never" = some (some (.bool false)))
    (y_Rule_init_strict : PySem.W.nsIn K D12 "strict" = some (some (.bool false)))
    {f13 : Addr} {od13 an13 : Option Addr} {sl13 : Array (Option Value)} {oc13 kV13 dc13 pm13 cd13 ct13 : Value}
    (a13_Rule : PySem.W.findIn K (.ref C_Rule) "both" = some (some (.ref f13)))
    (i13 : PySem.W.isFn K (.ref f13) = true)
    (l13 : K.lookup f13 = some ⟨oc13, od13, .func (PySem.W.fnOf "both" "Rule.both" (defArgs s_Rule_both) (defBody s_Rule_both) (defScope s_Rule_both) .none kV13 dc13 pm13 an13 cd13 ct13), sl13⟩) (c13 : PySem.W.codeIn K cd13 "Rule.both" = true) (k13 : PySem.W.keepIn K (.ref f13) = true)
    {f14 : Addr} {od14 an14 : Option Addr} {sl14 : Array (Option Value)} {oc14 dc14 pm14 cd14 ct14 : Value} {D14 : Addr}
    (a14_Wish : PySem.W.findIn K (.ref C_Wish) "__init__" = some (some (.ref f14)))
    (i14 : PySem.W.isFn K (.ref f14) = true)
    (l14 : K.lookup f14 = some ⟨oc14, od14, .func (PySem.W.fnOf "__init__" "Wish.__init__" (defArgs s_Wish_init) (defBody s_Wish_init) (defScope s_Wish_init) .none (.ref D14) dc14 pm14 an14 cd14 ct14), sl14⟩) (c14 : PySem.W.codeIn K cd14 "Wish.__init__" = true) (k14 : PySem.W.keepIn K (.ref f14) = true)
    (y_Wish_init_atmost : PySem.W.nsIn K D14 "atmost" = some (some (.none)))
    {tk_Wish_init_left : Tok}
    (y_Wish_init_left : PySem.W.nsIn K D14 "left" = some (some (.int 0 tk_Wish_init_left)))
    {tk_Wish_init_worn : Tok}
    (y_Wish_init_worn : PySem.W.nsIn K D14 "worn" = some (some (.int 0 tk_Wish_init_worn)))
    (y_Wish_init_anew : PySem.W.nsIn K D14 "anew" = some (some (.bool false)))
    (y_Wish_init_kept : PySem.W.nsIn K D14 "kept" = some (some (.bool false)))
    (y_Wish_init_firm : PySem.W.nsIn K D14 "firm" = some (some (.bool false)))
    {f15 : Addr} {od15 an15 : Option Addr} {sl15 : Array (Option Value)} {oc15 kV15 dc15 pm15 cd15 ct15 : Value}
    (a15_Wish : PySem.W.findIn K (.ref C_Wish) "both" = some (some (.ref f15)))
    (i15 : PySem.W.isFn K (.ref f15) = true)
    (l15 : K.lookup f15 = some ⟨oc15, od15, .func (PySem.W.fnOf "both" "Wish.both" (defArgs s_Wish_both) (defBody s_Wish_both) (defScope s_Wish_both) .none kV15 dc15 pm15 an15 cd15 ct15), sl15⟩) (c15 : PySem.W.codeIn K cd15 "Wish.both" = true) (k15 : PySem.W.keepIn K (.ref f15) = true)
    {a_SERVED : Addr} {tt_SERVED_0 tt_SERVED_1 tt_SERVED_2 : Tok} {od_SERVED : Option Addr} {nn_SERVED : Nat} {sl_SERVED : Array (Option Value)} (x_SERVED : PySem.W.nsIn K mainGlobals "SERVED" = some (some (.ref a_SERVED))) (y_SERVED : K.lookup a_SERVED = some ⟨.type "tuple", od_SERVED, .seq #[.str "fresh" tt_SERVED_0, .str "let" tt_SERVED_1, .str "worn" tt_SERVED_2] nn_SERVED, sl_SERVED⟩)
    (z_int : PySem.W.nsIn K mainGlobals "int" = some none)
    (z_len : PySem.W.nsIn K mainGlobals "len" = some none)
    (z_max : PySem.W.nsIn K mainGlobals "max" = some none)
    (z_min : PySem.W.nsIn K mainGlobals "min" = some none)
    (z_range : PySem.W.nsIn K mainGlobals "range" = some none)
    (z_sorted : PySem.W.nsIn K mainGlobals "sorted" = some none)
    : ∃ fd : FuncData, (∀ (s : Shared) (v : Value), BindsTo s fd ⟨[v], []⟩ [("_law_script", v)]) ∧ ∀ base : Heap, K.In base → base.Ns mainGlobals mg → FnOk l.prog w K mg base CX0 4 fa fd ["_law_script"] (spLaw K) := by
  have e := hfa.symm.trans (PySem.W.mg_of X G a11)
  cases e
  have F0 := fun_mk (st := s_lesser) l0 c0 k0
  have F1 := fun_mk (st := s_lets) l1 c1 k1
  have F2 := fun_mk (st := s_serves) l2 c2 k2
  have FK2 : FunD K "serves" "serves" (defArgs s_serves) (defBody s_serves) (defScope s_serves) [] ([("alone", .bl false)] : List (Str × V)) f2 _ := ⟨⟨_, _, _, _, _, _, _, _, _, _, rfl, l2, c2, .inl ⟨rfl, rfl⟩, .inr ⟨_, rfl, (List.forall_mem_cons.mpr ⟨⟨_, y_serves_alone, rfl⟩, (fun _ h => nomatch h)⟩)⟩⟩, k2⟩
  have F3 := fun_mk (st := s_law_well) l3 c3 k3
  have F4 := fun_mk (st := s_law_draw) l4 c4 k4
  have F5 := fun_mk (st := s_law_number) l5 c5 k5
  have F6 := fun_mk (st := s_law_rule) l6 c6 k6
  have F7 := fun_mk (st := s_law_wish) l7 c7 k7
  have F8 := fun_mk (st := s_law_ages) l8 c8 k8
  have F9 := fun_mk (st := s_law_falls) l9 c9 k9
  have F10 := fun_mk (st := s_law_under) l10 c10 k10
  have F11 := fun_mk (st := s_law) l11 c11 k11
  have F12 := fun_mk (st := s_Rule_init) l12 c12 k12
  have FK12 : FunD K "__init__" "Rule.__init__" (defArgs s_Rule_init) (defBody s_Rule_init) (defScope s_Rule_init) [] ([("keep", .int 0), ("worn", .int 0), ("alone", .int 0), ("anew", .bl false), ("own", .bl false), ("common", .bl false), ("never", .bl false), ("strict", .bl false)] : List (Str × V)) f12 _ := ⟨⟨_, _, _, _, _, _, _, _, _, _, rfl, l12, c12, .inl ⟨rfl, rfl⟩, .inr ⟨_, rfl, (List.forall_mem_cons.mpr ⟨⟨_, y_Rule_init_keep, ⟨_, rfl⟩⟩, (List.forall_mem_cons.mpr ⟨⟨_, y_Rule_init_worn, ⟨_, rfl⟩⟩, (List.forall_mem_cons.mpr ⟨⟨_, y_Rule_init_alone, ⟨_, rfl⟩⟩, (List.forall_mem_cons.mpr ⟨⟨_, y_Rule_init_anew, rfl⟩, (List.forall_mem_cons.mpr ⟨⟨_, y_Rule_init_own, rfl⟩, (List.forall_mem_cons.mpr ⟨⟨_, y_Rule_init_common, rfl⟩, (List.forall_mem_cons.mpr ⟨⟨_, y_Rule_init_never, rfl⟩, (List.forall_mem_cons.mpr ⟨⟨_, y_Rule_init_strict, rfl⟩, (fun _ h => nomatch h)⟩)⟩)⟩)⟩)⟩)⟩)⟩)⟩)⟩⟩, k12⟩
  have F13 := fun_mk (st := s_Rule_both) l13 c13 k13
  have F14 := fun_mk (st := s_Wish_init) l14 c14 k14
  have FK14 : FunD K "__init__" "Wish.__init__" (defArgs s_Wish_init) (defBody s_Wish_init) (defScope s_Wish_init) [] ([("atmost", .non), ("left", .int 0), ("worn", .int 0), ("anew", .bl false), ("kept", .bl false), ("firm", .bl false)] : List (Str × V)) f14 _ := ⟨⟨_, _, _, _, _, _, _, _, _, _, rfl, l14, c14, .inl ⟨rfl, rfl⟩, .inr ⟨_, rfl, (List.forall_mem_cons.mpr ⟨⟨_, y_Wish_init_atmost, rfl⟩, (List.forall_mem_cons.mpr ⟨⟨_, y_Wish_init_left, ⟨_, rfl⟩⟩, (List.forall_mem_cons.mpr ⟨⟨_, y_Wish_init_worn, ⟨_, rfl⟩⟩, (List.forall_mem_cons.mpr ⟨⟨_, y_Wish_init_anew, rfl⟩, (List.forall_mem_cons.mpr ⟨⟨_, y_Wish_init_kept, rfl⟩, (List.forall_mem_cons.mpr ⟨⟨_, y_Wish_init_firm, rfl⟩, (fun _ h => nomatch h)⟩)⟩)⟩)⟩)⟩)⟩)⟩⟩, k14⟩
  have F15 := fun_mk (st := s_Wish_both) l15 c15 k15
  let T : Txt K mg := {
    f_lesser := f0, fd_lesser := _, d_lesser := ⟨F0, F0.binds (ps := ["one", "other"]) (fun _ _ _ _ _ _ us hl => match us, hl with | [_, _], _ => rfl), PySem.W.mg_of X G a0⟩,
    f_lets := f1, fd_lets := _, d_lets := ⟨F1, F1.binds (ps := ["rule", "wish", "age"]) (fun _ _ _ _ _ _ us hl => match us, hl with | [_, _, _], _ => rfl), PySem.W.mg_of X G a1⟩,
    f_serves := f2, fd_serves := _, d_serves := ⟨F2, PySem.W.mg_of X G a2⟩,
    f_law_well := f3, fd_law_well := _, d_law_well := ⟨F3, F3.binds (ps := ["_law_cell"]) (fun _ _ _ _ _ _ us hl => match us, hl with | [_], _ => rfl), PySem.W.mg_of X G a3⟩,
    f_law_draw := f4, fd_law_draw := _, d_law_draw := ⟨F4, F4.binds (ps := ["_law_well_here", "_law_many"]) (fun _ _ _ _ _ _ us hl => match us, hl with | [_, _], _ => rfl), PySem.W.mg_of X G a4⟩,
    f_law_number := f5, fd_law_number := _, d_law_number := ⟨F5, F5.binds (ps := ["_law_well_here", "_law_near"]) (fun _ _ _ _ _ _ us hl => match us, hl with | [_, _], _ => rfl), PySem.W.mg_of X G a5⟩,
    f_law_rule := f6, fd_law_rule := _, d_law_rule := ⟨F6, F6.binds (ps := ["_law_well_here", "_law_ahead"]) (fun _ _ _ _ _ _ us hl => match us, hl with | [_, _], _ => rfl), PySem.W.mg_of X G a6⟩,
    f_law_wish := f7, fd_law_wish := _, d_law_wish := ⟨F7, F7.binds (ps := ["_law_well_here", "_law_ahead"]) (fun _ _ _ _ _ _ us hl => match us, hl with | [_, _], _ => rfl), PySem.W.mg_of X G a7⟩,
    f_law_ages := f8, fd_law_ages := _, d_law_ages := ⟨F8, F8.binds (ps := ["_law_rule_rows", "_law_wish_rows"]) (fun _ _ _ _ _ _ us hl => match us, hl with | [_, _], _ => rfl), PySem.W.mg_of X G a8⟩,
    f_law_falls := f9, fd_law_falls := _, d_law_falls := ⟨F9, F9.binds (ps := ["_law_rule_here", "_law_wish_here", "_law_ages_here"]) (fun _ _ _ _ _ _ us hl => match us, hl with | [_, _, _], _ => rfl), PySem.W.mg_of X G a9⟩,
    f_law_under := f10, fd_law_under := _, d_law_under := ⟨F10, F10.binds (ps := ["_law_rule_here", "_law_wish_here", "_law_rules", "_law_wishes", "_law_age", "_law_every"]) (fun _ _ _ _ _ _ us hl => match us, hl with | [_, _, _, _, _, _], _ => rfl), PySem.W.mg_of X G a10⟩,
    f_law := fa, fd_law := _, d_law := ⟨F11, F11.binds (ps := ["_law_script"]) (fun _ _ _ _ _ _ us hl => match us, hl with | [_], _ => rfl), PySem.W.mg_of X G a11⟩,
    f_Rule_init := f12, fd_Rule_init := _, d_Rule_init := ⟨F12⟩,
    f_Rule_both := f13, fd_Rule_both := _, d_Rule_both := ⟨F13, F13.binds (ps := ["self", "other"]) (fun _ _ _ _ _ _ us hl => match us, hl with | [_, _], _ => rfl)⟩,
    f_Wish_init := f14, fd_Wish_init := _, d_Wish_init := ⟨F14⟩,
    f_Wish_both := f15, fd_Wish_both := _, d_Wish_both := ⟨F15, F15.binds (ps := ["self", "other"]) (fun _ _ _ _ _ _ us hl => match us, hl with | [_, _], _ => rfl)⟩,
    C_Rule := C_Rule, g_Rule := PySem.W.mg_of X G aC_Rule, cl_Rule := ⟨pg_Rule, hd_Rule, po_Rule, sa_Rule⟩,
    mk_Rule := ⟨mk_Rule, a12_Rule, i12, kc_Rule⟩,
    n_Rule_keep := n_Rule_keep,
    n_Rule_worn := n_Rule_worn,
    n_Rule_alone := n_Rule_alone,
    n_Rule_anew := n_Rule_anew,
    n_Rule_own := n_Rule_own,
    n_Rule_common := n_Rule_common,
    n_Rule_never := n_Rule_never,
    n_Rule_strict := n_Rule_strict,
    me_Rule_both := ⟨a13_Rule, i13, k13⟩,
    C_Wish := C_Wish, g_Wish := PySem.W.mg_of X G aC_Wish, cl_Wish := ⟨pg_Wish, hd_Wish, po_Wish, sa_Wish⟩,
    mk_Wish := ⟨mk_Wish, a14_Wish, i14, kc_Wish⟩,
    n_Wish_atmost := n_Wish_atmost,
    n_Wish_left := n_Wish_left,
    n_Wish_worn := n_Wish_worn,
    n_Wish_anew := n_Wish_anew,
    n_Wish_kept := n_Wish_kept,
    n_Wish_firm := n_Wish_firm,
    me_Wish_both := ⟨a15_Wish, i15, k15⟩,
    kb_0 := (FK12.kbinds0 (ps := ["self", "keep", "worn", "alone", "anew", "own", "common", "never", "strict"]) 1 ["keep", "worn", "alone", "anew", "strict", "own", "never"] [("common", .bl false)] (fun us mv ws => us ++ pickKw [.inr 0, .inr 1, .inr 2, .inr 3, .inr 5, .inl 0, .inr 6, .inr 4] mv ws) (by simp) (by simp) (fun r1 r2 r3 => pick_rel [.inr 0, .inr 1, .inr 2, .inr 3, .inr 5, .inl 0, .inr 6, .inr 4] r1 r2 r3) (fun D doc pm an cdv ct us mv ws h1 h2 h3 => match us, mv, ws, h1, h2, h3 with | [_], [_], [_, _, _, _, _, _, _], _, _, _ => ⟨_, _, _, _, _, _, rfl, rfl, rfl⟩)).elim (fun mv h => ⟨_, h⟩),
    kb_1 := (FK14.kbinds0 (ps := ["self", "atmost", "left", "worn", "anew", "kept", "firm"]) 1 ["left", "worn", "anew", "firm", "kept"] [("atmost", .non)] (fun us mv ws => us ++ pickKw [.inl 0, .inr 0, .inr 1, .inr 2, .inr 4, .inr 3] mv ws) (by simp) (by simp) (fun r1 r2 r3 => pick_rel [.inl 0, .inr 0, .inr 1, .inr 2, .inr 4, .inr 3] r1 r2 r3) (fun D doc pm an cdv ct us mv ws h1 h2 h3 => match us, mv, ws, h1, h2, h3 with | [_], [_], [_, _, _, _, _], _, _, _ => ⟨_, _, _, _, _, _, rfl, rfl, rfl⟩)).elim (fun mv h => ⟨_, h⟩),
    kb_2 := (FK14.kbinds0 (ps := ["self", "atmost", "left", "worn", "anew", "kept", "firm"]) 1 ["atmost", "left", "worn", "anew", "firm"] [("kept", .bl false)] (fun us mv ws => us ++ pickKw [.inr 0, .inr 1, .inr 2, .inr 3, .inl 0, .inr 4] mv ws) (by simp) (by simp) (fun r1 r2 r3 => pick_rel [.inr 0, .inr 1, .inr 2, .inr 3, .inl 0, .inr 4] r1 r2 r3) (fun D doc pm an cdv ct us mv ws h1 h2 h3 => match us, mv, ws, h1, h2, h3 with | [_], [_], [_, _, _, _, _], _, _, _ => ⟨_, _, _, _, _, _, rfl, rfl, rfl⟩)).elim (fun mv h => ⟨_, h⟩),
    kb_3 := (FK2.kbinds0 (ps := ["rule", "wish", "age", "alone"]) 3 ["alone"] [] (fun us mv ws => us ++ pickKw [.inr 0] mv ws) (by simp) (by simp) (fun r1 r2 r3 => pick_rel [.inr 0] r1 r2 r3) (fun D doc pm an cdv ct us mv ws h1 h2 h3 => match us, mv, ws, h1, h2, h3 with | [_, _, _], [], [_], _, _, _ => rfl)).elim (fun mv h => ⟨_, h⟩),
    kb_4 := (FK12.kbinds0 (ps := ["self", "keep", "worn", "alone", "anew", "own", "common", "never", "strict"]) 1 ["keep", "worn", "alone", "anew", "own", "common", "never", "strict"] [] (fun us mv ws => us ++ pickKw [.inr 0, .inr 1, .inr 2, .inr 3, .inr 4, .inr 5, .inr 6, .inr 7] mv ws) (by simp) (by simp) (fun r1 r2 r3 => pick_rel [.inr 0, .inr 1, .inr 2, .inr 3, .inr 4, .inr 5, .inr 6, .inr 7] r1 r2 r3) (fun D doc pm an cdv ct us mv ws h1 h2 h3 => match us, mv, ws, h1, h2, h3 with | [_], [], [_, _, _, _, _, _, _, _], _, _, _ => rfl)).elim (fun mv h => ⟨_, h⟩),
    kb_5 := (FK14.kbinds0 (ps := ["self", "atmost", "left", "worn", "anew", "kept", "firm"]) 1 ["atmost", "left", "worn", "anew", "kept", "firm"] [] (fun us mv ws => us ++ pickKw [.inr 0, .inr 1, .inr 2, .inr 3, .inr 4, .inr 5] mv ws) (by simp) (by simp) (fun r1 r2 r3 => pick_rel [.inr 0, .inr 1, .inr 2, .inr 3, .inr 4, .inr 5] r1 r2 r3) (fun D doc pm an cdv ct us mv ws h1 h2 h3 => match us, mv, ws, h1, h2, h3 with | [_], [], [_, _, _, _, _, _], _, _, _ => rfl)).elim (fun mv h => ⟨_, h⟩),
    a_SERVED := a_SERVED, g_SERVED := PySem.W.mg_of X G x_SERVED, q_SERVED := fun H => .inr ⟨_, _, _, y_SERVED, rfl, rfl, (by show 3 ≤ sizeLine; decide), (.cons ⟨_, rfl⟩ (.cons ⟨_, rfl⟩ (.cons ⟨_, rfl⟩ .nil)))⟩,
    m_int := PySem.W.mg_none_of X G z_int,
    m_len := PySem.W.mg_none_of X G z_len,
    m_max := PySem.W.mg_none_of X G z_max,
    m_min := PySem.W.mg_none_of X G z_min,
    m_range := PySem.W.mg_none_of X G z_range,
    m_sorted := PySem.W.mg_none_of X G z_sorted
  }
  exact ⟨T.fd_law, fun s v => .of_eq rfl, fun base _ _ => ok_law T⟩
end My
open PySem PySem.W PyProof.Rows
set_option maxHeartbeats 0 in
theorem PySem.Challenge.cw_pagelodge_k18_whole_the_strictest_of_all_holds : PySem.Challenge.rw_pagelodge_k18_whole_the_strictest_of_all.Holds := by
  w_on; o_law; k_head; (case hw => w_witness2)
  k_fill
  refine L2.walk_of (l := PySem.Challenge.rw_pagelodge_k18_whole_the_strictest_of_all) (n := 63) (k := 4) (x := "_law_script") (CX := fun _ => L2.CX0) (sp := fun w => My.spLaw _) rfl (by decide) rfl ⟨rfl, by decide, by decide⟩ (fun w h Y => PySem.W.kIn_of Y) ?F (fun _ _ a ns hl _ hS => ⟨a, ns, rfl, hS, hl, fun _ => rfl⟩) (fun _ _ _ _ _ h => h)
  case F =>
    intro w mg fa h KX G hmg
    refine' My.all_mk KX G hmg ?aC_Rule ?pg_Rule ?hd_Rule ?po_Rule ?sa_Rule ?mk_Rule ?kc_Rule ?n_Rule_keep ?n_Rule_worn ?n_Rule_alone ?n_Rule_anew ?n_Rule_own ?n_Rule_common ?n_Rule_never ?n_Rule_strict ?aC_Wish ?pg_Wish ?hd_Wish ?po_Wish ?sa_Wish ?mk_Wish ?kc_Wish ?n_Wish_atmost ?n_Wish_left ?n_Wish_worn ?n_Wish_anew ?n_Wish_kept ?n_Wish_firm ?a0 ?l0 ?c0 ?k0 ?a1 ?l1 ?c1 ?k1 ?a2 ?l2 ?c2 ?k2 ?y_serves_alone ?a3 ?l3 ?c3 ?k3 ?a4 ?l4 ?c4 ?k4 ?a5 ?l5 ?c5 ?k5 ?a6 ?l6 ?c6 ?k6 ?a7 ?l7 ?c7 ?k7 ?a8 ?l8 ?c8 ?k8 ?a9 ?l9 ?c9 ?k9 ?a10 ?l10 ?c10 ?k10 ?a11 ?l11 ?c11 ?k11 ?a12_Rule ?i12 ?l12 ?c12 ?k12 ?y_Rule_init_keep ?y_Rule_init_worn ?y_Rule_init_alone ?y_Rule_init_anew ?y_Rule_init_own ?y_Rule_init_common ?y_Rule_init_never ?y_Rule_init_strict ?a13_Rule ?i13 ?l13 ?c13 ?k13 ?a14_Wish ?i14 ?l14 ?c14 ?k14 ?y_Wish_init_atmost ?y_Wish_init_left ?y_Wish_init_worn ?y_Wish_init_anew ?y_Wish_init_kept ?y_Wish_init_firm ?a15_Wish ?i15 ?l15 ?c15 ?k15 ?x_SERVED ?y_SERVED ?z_int ?z_len ?z_max ?z_min ?z_range ?z_sorted
    (case aC_Rule => k_is)
    (case pg_Rule => k_is)
    (case hd_Rule => k_is)
    (case po_Rule => k_is)
    (case sa_Rule => k_is)
    (case mk_Rule => k_is)
    (case kc_Rule => k_is)
    (case n_Rule_keep => k_is)
    (case n_Rule_worn => k_is)
    (case n_Rule_alone => k_is)
    (case n_Rule_anew => k_is)
    (case n_Rule_own => k_is)
    (case n_Rule_common => k_is)
    (case n_Rule_never => k_is)
    (case n_Rule_strict => k_is)
    (case aC_Wish => k_is)
    (case pg_Wish => k_is)
    (case hd_Wish => k_is)
    (case po_Wish => k_is)
    (case sa_Wish => k_is)
    (case mk_Wish => k_is)
    (case kc_Wish => k_is)
    (case n_Wish_atmost => k_is)
    (case n_Wish_left => k_is)
    (case n_Wish_worn => k_is)
    (case n_Wish_anew => k_is)
    (case n_Wish_kept => k_is)
    (case n_Wish_firm => k_is)
    (case a0 => k_is)
    (case l0 => k_is)
    (case c0 => k_is)
    (case k0 => k_is)
    (case a1 => k_is)
    (case l1 => k_is)
    (case c1 => k_is)
    (case k1 => k_is)
    (case a2 => k_is)
    (case l2 => k_is)
    (case c2 => k_is)
    (case k2 => k_is)
    (case y_serves_alone => k_is)
    (case a3 => k_is)
    (case l3 => k_is)
    (case c3 => k_is)
    (case k3 => k_is)
    (case a4 => k_is)
    (case l4 => k_is)
    (case c4 => k_is)
    (case k4 => k_is)
    (case a5 => k_is)
    (case l5 => k_is)
    (case c5 => k_is)
    (case k5 => k_is)
    (case a6 => k_is)
    (case l6 => k_is)
    (case c6 => k_is)
    (case k6 => k_is)
    (case a7 => k_is)
    (case l7 => k_is)
    (case c7 => k_is)
    (case k7 => k_is)
    (case a8 => k_is)
    (case l8 => k_is)
    (case c8 => k_is)
    (case k8 => k_is)
    (case a9 => k_is)
    (case l9 => k_is)
    (case c9 => k_is)
    (case k9 => k_is)
    (case a10 => k_is)
    (case l10 => k_is)
    (case c10 => k_is)
    (case k10 => k_is)
    (case a11 => k_is)
    (case l11 => k_is)
    (case c11 => k_is)
    (case k11 => k_is)
    (case a12_Rule => k_is)
    (case i12 => k_is)
    (case l12 => k_is)
    (case c12 => k_is)
    (case k12 => k_is)
    (case y_Rule_init_keep => k_is)
    (case y_Rule_init_worn => k_is)
    (case y_Rule_init_alone => k_is)
    (case y_Rule_init_anew => k_is)
    (case y_Rule_init_own => k_is)
    (case y_Rule_init_common => k_is)
    (case y_Rule_init_never => k_is)
    (case y_Rule_init_strict => k_is)
    (case a13_Rule => k_is)
    (case i13 => k_is)
    (case l13 => k_is)
    (case c13 => k_is)
    (case k13 => k_is)
    (case a14_Wish => k_is)
    (case i14 => k_is)
    (case l14 => k_is)
    (case c14 => k_is)
    (case k14 => k_is)
    (case y_Wish_init_atmost => k_is)
    (case y_Wish_init_left => k_is)
    (case y_Wish_init_worn => k_is)
    (case y_Wish_init_anew => k_is)
    (case y_Wish_init_kept => k_is)
    (case y_Wish_init_firm => k_is)
    (case a15_Wish => k_is)
    (case i15 => k_is)
    (case l15 => k_is)
    (case c15 => k_is)
    (case k15 => k_is)
    (case x_SERVED => k_is)
    (case y_SERVED => k_is)
    (case z_int => k_is)
    (case z_len => k_is)
    (case z_max => k_is)
    (case z_min => k_is)
    (case z_range => k_is)
    (case z_sorted => k_is)
