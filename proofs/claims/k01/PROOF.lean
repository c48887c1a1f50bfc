import PyProof.Rows.All
import Wide.All
import OpenK.AllK
import Wide.FinOn
import HandS.ForMost
import HandS.IsInst
import HandS.Walk
import HandS.Style
import HandS.Evl
import PySem.Challenge.RW_pagelodge_k01_words_told_apart
set_option Elab.async false
set_option linter.all false
set_option maxRecDepth 100000
set_option maxHeartbeats 4000000
namespace My
open PySem PySem.Spec PyProof.Rows L2
/-- xs == [], xs != []: items of any kind -/
def rEqNil (K : PySem.W.Frag) : R2 := fun x y H Q => ∃ p q xs, x = .ref p ∧ y = .ref q ∧ SqL K H p xs ∧ SqL K H q [] ∧ Q (.bl xs.isEmpty) H
section
variable {X : Cx}
theorem op_eqNil (hu : X.A.units + 64 < cLine) : OpR X (compareOp .Eq) (rEqNil X.K) := by
  intro pins s σ H x y v u Q I rx ry h
  obtain ⟨p, q, xs, rfl, rfl, h1, h2, k⟩ := h
  obtain ⟨its, rv, hl, _⟩ := I.list h1
  obtain ⟨its2, rv2, hl2, _⟩ := I.list h2
  cases (show v = Value.ref p from rx)
  cases (show u = Value.ref q from ry)
  cases rv2
  cases rv with
  | nil => exact SeqAt.eq_listAt (e := fun _ => true) hl.isList hl2.isList rfl (by omega) (fun j h1 _ => absurd h1 (by simp)) ⟨.bl true, H, I, rfl, k⟩
  | cons a b => exact SeqAt.eq_list_lengthsAt hl.isList hl2.isList (by simp) (by omega) ⟨.bl false, H, I, rfl, k⟩
end
end My
/-! The draws of k01's law: only that they lie in their bounds counts. -/
namespace My
open PySem PySem.Spec PyProof.Rows L2
def topS (i : Nat) : Stmt := PySem.Challenge.pw_pagelodge_k01_words_told_apart.main.body.getD i (.Pass ⟨0, 0, 0, 0⟩)
abbrev s_is_made_of : Stmt := topS 8
theorem sc_is_made_of : FnScope ["text", "signs", "least", "most", "sign"] ["text", "signs", "least", "most"] (defScope s_is_made_of) := ⟨rfl, rfl, rfl, by decide +kernel, rfl, by decide +kernel, by decide +kernel⟩
abbrev s_is_name : Stmt := topS 9
theorem sc_is_name : FnScope ["text"] ["text"] (defScope s_is_name) := ⟨rfl, rfl, rfl, by decide +kernel, rfl, by decide +kernel, by decide +kernel⟩
abbrev s_is_worth : Stmt := topS 10
theorem sc_is_worth : FnScope ["text"] ["text"] (defScope s_is_worth) := ⟨rfl, rfl, rfl, by decide +kernel, rfl, by decide +kernel, by decide +kernel⟩
abbrev s_is_path : Stmt := topS 11
theorem sc_is_path : FnScope ["text", "names", "name"] ["text"] (defScope s_is_path) := ⟨rfl, rfl, rfl, by decide +kernel, rfl, by decide +kernel, by decide +kernel⟩
abbrev s_is_figures : Stmt := topS 12
theorem sc_is_figures : FnScope ["text"] ["text"] (defScope s_is_figures) := ⟨rfl, rfl, rfl, by decide +kernel, rfl, by decide +kernel, by decide +kernel⟩
abbrev s_is_mark : Stmt := topS 13
theorem sc_is_mark : FnScope ["text"] ["text"] (defScope s_is_mark) := ⟨rfl, rfl, rfl, by decide +kernel, rfl, by decide +kernel, by decide +kernel⟩
abbrev s_law_well : Stmt := topS 15
theorem sc_law_well : FnScope ["_law_cell"] ["_law_cell"] (defScope s_law_well) := ⟨rfl, rfl, rfl, by decide +kernel, rfl, by decide +kernel, by decide +kernel⟩
abbrev s_law_draw : Stmt := topS 16
theorem sc_law_draw : FnScope ["_law_well_here", "_law_many", "_law_found", "_law_number_here"] ["_law_well_here", "_law_many"] (defScope s_law_draw) := ⟨rfl, rfl, rfl, by decide +kernel, rfl, by decide +kernel, by decide +kernel⟩
abbrev s_law_signs : Stmt := topS 17
theorem sc_law_signs : FnScope ["_law_well_here", "_law_some", "_law_many", "_law_k"] ["_law_well_here", "_law_some", "_law_many"] (defScope s_law_signs) := ⟨rfl, rfl, rfl, by decide +kernel, rfl, by decide +kernel, by decide +kernel⟩
abbrev s_law_name : Stmt := topS 18
theorem sc_law_name : FnScope ["_law_well_here", "_law_size"] ["_law_well_here"] (defScope s_law_name) := ⟨rfl, rfl, rfl, by decide +kernel, rfl, by decide +kernel, by decide +kernel⟩
abbrev s_law_figures : Stmt := topS 19
theorem sc_law_figures : FnScope ["_law_well_here", "_law_lot", "_law_size", "_law_first"] ["_law_well_here"] (defScope s_law_figures) := ⟨rfl, rfl, rfl, by decide +kernel, rfl, by decide +kernel, by decide +kernel⟩
abbrev s_law_path : Stmt := topS 20
theorem sc_law_path : FnScope ["_law_well_here", "_law_many", "_law_names", "_law_k", "_law_size", "_law_lot"] ["_law_well_here"] (defScope s_law_path) := ⟨rfl, rfl, rfl, by decide +kernel, rfl, by decide +kernel, by decide +kernel⟩
abbrev s_law_good : Stmt := topS 21
theorem sc_law_good : FnScope ["_law_well_here", "_law_kind", "_law_size", "_law_head"] ["_law_well_here"] (defScope s_law_good) := ⟨rfl, rfl, rfl, by decide +kernel, rfl, by decide +kernel, by decide +kernel⟩
abbrev s_law_any_sign : Stmt := topS 22
theorem sc_law_any_sign : FnScope ["_law_well_here", "_law_some"] ["_law_well_here"] (defScope s_law_any_sign) := ⟨rfl, rfl, rfl, by decide +kernel, rfl, by decide +kernel, by decide +kernel⟩
abbrev s_law_thing : Stmt := topS 23
theorem sc_law_thing : FnScope ["_law_well_here", "_law_lot", "_law_at", "_law_sign", "_law_text"] ["_law_well_here"] (defScope s_law_thing) := ⟨rfl, rfl, rfl, by decide +kernel, rfl, by decide +kernel, by decide +kernel⟩
abbrev s_law_of : Stmt := topS 24
theorem sc_law_of : FnScope ["_law_text", "_law_signs_here", "_law_least", "_law_most", "_law_sign"] ["_law_text", "_law_signs_here", "_law_least", "_law_most"] (defScope s_law_of) := ⟨rfl, rfl, rfl, by decide +kernel, rfl, by decide +kernel, by decide +kernel⟩
abbrev s_law_number : Stmt := topS 25
theorem sc_law_number : FnScope ["_law_text"] ["_law_text"] (defScope s_law_number) := ⟨rfl, rfl, rfl, by decide +kernel, rfl, by decide +kernel, by decide +kernel⟩
abbrev s_law_due : Stmt := topS 26
theorem sc_law_due : FnScope ["_law_thing_here", "_law_letters", "_law_names", "_law_bad", "_law_path_here", "_law_found", "_law_mark", "_law_name_here"] ["_law_thing_here"] (defScope s_law_due) := ⟨rfl, rfl, rfl, by decide +kernel, rfl, by decide +kernel, by decide +kernel⟩
abbrev s_law : Stmt := topS 27
theorem sc_law : FnScope ["_law_script", "_law_cell", "_law_thing_here", "_law_found", "_law_one"] ["_law_script"] (defScope s_law) := ⟨rfl, rfl, rfl, by decide +kernel, rfl, by decide +kernel, by decide +kernel⟩
structure Def (K : PySem.W.Frag) (mg : Str → Option Value) (x : Str) (st : Stmt) (ps : List Str) (f : Addr) (fd : FuncData) : Prop where
  F : Fun K x x st f fd
  b : Binds K fd ps []
  g : mg x = some (.ref f)
structure Txt (K : PySem.W.Frag) (mg : Str → Option Value) where
  f_is_made_of : Addr
  fd_is_made_of : FuncData
  d_is_made_of : Def K mg "is_made_of" s_is_made_of ["text", "signs", "least", "most"] f_is_made_of fd_is_made_of
  f_is_name : Addr
  fd_is_name : FuncData
  d_is_name : Def K mg "is_name" s_is_name ["text"] f_is_name fd_is_name
  f_is_worth : Addr
  fd_is_worth : FuncData
  d_is_worth : Def K mg "is_worth" s_is_worth ["text"] f_is_worth fd_is_worth
  f_is_path : Addr
  fd_is_path : FuncData
  d_is_path : Def K mg "is_path" s_is_path ["text"] f_is_path fd_is_path
  f_is_figures : Addr
  fd_is_figures : FuncData
  d_is_figures : Def K mg "is_figures" s_is_figures ["text"] f_is_figures fd_is_figures
  f_is_mark : Addr
  fd_is_mark : FuncData
  d_is_mark : Def K mg "is_mark" s_is_mark ["text"] f_is_mark fd_is_mark
  f_law_well : Addr
  fd_law_well : FuncData
  d_law_well : Def K mg "_law_well" s_law_well ["_law_cell"] f_law_well fd_law_well
  f_law_draw : Addr
  fd_law_draw : FuncData
  d_law_draw : Def K mg "_law_draw" s_law_draw ["_law_well_here", "_law_many"] f_law_draw fd_law_draw
  f_law_signs : Addr
  fd_law_signs : FuncData
  d_law_signs : Def K mg "_law_signs" s_law_signs ["_law_well_here", "_law_some", "_law_many"] f_law_signs fd_law_signs
  f_law_name : Addr
  fd_law_name : FuncData
  d_law_name : Def K mg "_law_name" s_law_name ["_law_well_here"] f_law_name fd_law_name
  f_law_figures : Addr
  fd_law_figures : FuncData
  d_law_figures : Def K mg "_law_figures" s_law_figures ["_law_well_here"] f_law_figures fd_law_figures
  f_law_path : Addr
  fd_law_path : FuncData
  d_law_path : Def K mg "_law_path" s_law_path ["_law_well_here"] f_law_path fd_law_path
  f_law_good : Addr
  fd_law_good : FuncData
  d_law_good : Def K mg "_law_good" s_law_good ["_law_well_here"] f_law_good fd_law_good
  f_law_any_sign : Addr
  fd_law_any_sign : FuncData
  d_law_any_sign : Def K mg "_law_any_sign" s_law_any_sign ["_law_well_here"] f_law_any_sign fd_law_any_sign
  f_law_thing : Addr
  fd_law_thing : FuncData
  d_law_thing : Def K mg "_law_thing" s_law_thing ["_law_well_here"] f_law_thing fd_law_thing
  f_law_of : Addr
  fd_law_of : FuncData
  d_law_of : Def K mg "_law_of" s_law_of ["_law_text", "_law_signs_here", "_law_least", "_law_most"] f_law_of fd_law_of
  f_law_number : Addr
  fd_law_number : FuncData
  d_law_number : Def K mg "_law_number" s_law_number ["_law_text"] f_law_number fd_law_number
  f_law_due : Addr
  fd_law_due : FuncData
  d_law_due : Def K mg "_law_due" s_law_due ["_law_thing_here"] f_law_due fd_law_due
  f_law : Addr
  fd_law : FuncData
  d_law : Def K mg "law" s_law ["_law_script"] f_law fd_law
  t_LETTERS : Tok
  g_LETTERS : mg "LETTERS" = some (.str "abcdefghijklmnopqrstuvwxyz" t_LETTERS)
  t_FIGURES : Tok
  g_FIGURES : mg "FIGURES" = some (.str "0123456789" t_FIGURES)
  t_WORTH_SIGNS : Tok
  g_WORTH_SIGNS : mg "WORTH_SIGNS" = some (.str "abcdefghijklmnopqrstuvwxyz0123456789-" t_WORTH_SIGNS)
  t_LONGEST_NAME : Tok
  g_LONGEST_NAME : mg "LONGEST_NAME" = some (.int 8 t_LONGEST_NAME)
  t_LONGEST_WORTH : Tok
  g_LONGEST_WORTH : mg "LONGEST_WORTH" = some (.int 12 t_LONGEST_WORTH)
  t_MOST_NAMES : Tok
  g_MOST_NAMES : mg "MOST_NAMES" = some (.int 4 t_MOST_NAMES)
  t_MOST_FIGURES : Tok
  g_MOST_FIGURES : mg "MOST_FIGURES" = some (.int 60 t_MOST_FIGURES)
  m_all : mg "all" = none
  m_int : mg "int" = none
  m_isinstance : mg "isinstance" = none
  m_len : mg "len" = none
  m_max : mg "max" = none
  m_range : mg "range" = none
  m_str : mg "str" = none
/-! ### heaps that change at the well alone -/
def W3 (a b c : Int) : HO := .lst [.int a, .int b, .int c]
def IsW (H : Hp) (W : Addr) : Prop := ∃ a b c, H W = some (W3 a b c)
structure Wx (W : Addr) (H H' : Hp) : Prop where
  keep : ∀ b o, b ≠ W → H b = some o → H' b = some o
  well : IsW H' W
theorem Wx.refl {W : Addr} {H : Hp} (h : IsW H W) : Wx W H H := ⟨fun _ _ _ e => e, h⟩
theorem Wx.trans {W : Addr} {H H1 H2 : Hp} (a : Wx W H H1) (b : Wx W H1 H2) : Wx W H H2 := ⟨fun c o n e => b.keep c o n (a.keep c o n e), b.well⟩
theorem Wx.free {W : Addr} {H H' : Hp} (e : Wx W H H') {p : Addr} (h : H' p = none) : H p = none := by
  cases q : H p with
  | none => rfl
  | some o =>
    by_cases hp : p = W
    · obtain ⟨a, b, c, hw⟩ := e.well
      rw [hp, hw] at h
      cases h
    · rw [e.keep p o hp q] at h
      cases h
theorem Wx.new {W : Addr} {H H' : Hp} (e : Wx W H H') {p : Addr} {o : HO} (h : H' p = none) : Wx W H (upd H' p o) := by
  obtain ⟨k, a, b, c, hw⟩ := e
  refine ⟨fun d u n q => ?_, a, b, c, ?_⟩
  · rw [upd_ne (ne_of_none (k d u n q) h)]
    exact k d u n q
  · rw [upd_ne (ne_of_none hw h)]
    exact hw
theorem Wx.set {W : Addr} {H H' : Hp} (e : Wx W H H') (a b c : Int) : Wx W H (upd H' W (W3 a b c)) := by
  refine ⟨fun d u n q => ?_, a, b, c, upd_same⟩
  rw [upd_ne n]
  exact e.keep d u n q
theorem IsW.ne {H : Hp} {W p : Addr} (h : IsW H W) (hp : H p = none) : W ≠ p := by
  obtain ⟨a, b, c, hw⟩ := h
  exact ne_of_none hw hp
/-- a list (other than the well) that is made here may change -/
theorem Wx.mut {W : Addr} {H H' : Hp} (e : Wx W H H') {p : Addr} {o : HO} (h : H p = none) (n : W ≠ p) : Wx W H (upd H' p o) := by
  obtain ⟨k, a, b, c, hw⟩ := e
  refine ⟨fun d u m q => ?_, a, b, c, ?_⟩
  · rw [upd_ne (ne_of_none q h)]
    exact k d u m q
  · rw [upd_ne n]
    exact hw
section
variable {P : Program} {w : World} {K : PySem.W.Frag} {mg : Str → Option Value} {base : Heap}
/-! ### the well, a draw -/
def spWell : Sp := fun vs H Q _ => ∃ n : Int, vs = [.int n] ∧ ∀ p a b c, H p = none → Q (.ref p) (upd H p (W3 a b c))
theorem ok_law_well (T : Txt K mg) : FnOk P w K mg base CX0 1 T.f_law_well T.fd_law_well ["_law_cell"] spWell := by
  refine T.d_law_well.F.ok sc_law_well (fun vs H Q E h => ?_) (fun cdv A outer s H vs Q E hr h => ?_)
  · obtain ⟨n, rfl, _⟩ := h
    rfl
  · obtain ⟨n, rfl, q⟩ := h
    refine ⟨_, (pss_one (ps_ret (pe_lst (pa_cons (pe_op op_mul (pv 0) (pe_callTy call_int1 (by rfl) T.m_int (by decide +kernel) (pa_cons (pe_cmpR op_ge (pv 0) (pe_op op_pow pe_int pe_int) (nomark _)) pa_nil))) (pa_cons (pe_op op_mod (pv 0) pe_int) (pa_cons pe_int pa_nil)))))), ?_⟩
    refine ⟨.int n, rfl, .int n, rfl, 10, 18, rfl, rfl, ⟨by decide, by decide, by decide⟩, n, _, rfl, rfl, .inr ⟨_, rfl, n, _, rfl, rfl, ?_, .int n, rfl, n, _, rfl, rfl, (show (0 : Int) < 2147483647 by decide), ?_⟩⟩
    · refine .inr ?_
      split <;> decide
    · exact ⟨(by show 3 ≤ sizeLine; decide), fun p hp => q p _ _ _ hp⟩
def spDraw : Sp := fun vs H Q _ => ∃ (W : Addr) (m : Int), vs = [.ref W, .int m] ∧ 0 < m ∧ m < 1073741824 ∧ IsW H W ∧ ∀ r H', 0 ≤ r → r < m → Wx W H H' → Q (.int r) H'
theorem mod_lt {n m : Int} (h : 0 < m) : 0 ≤ n % m ∧ n % m < m := ⟨Int.emod_nonneg n (by omega), Int.emod_lt_of_pos n h⟩
theorem cmul_of {i j : Int} (h : 0 ≤ i ∧ i < 2147483647) : CMul i j := .inl (by omega)
theorem ok_law_draw (T : Txt K mg) : FnOk P w K mg base CX0 1 T.f_law_draw T.fd_law_draw ["_law_well_here", "_law_many"] spDraw := by
  refine T.d_law_draw.F.ok sc_law_draw (fun vs H Q E h => ?_) (fun cdv A outer s H vs Q E hr h => ?_)
  · obtain ⟨W, m, rfl, _⟩ := h
    rfl
  · obtain ⟨W, m, rfl, m0, m1, hI, q⟩ := h
    obtain ⟨a, b, c, hW⟩ := id hI
    have i0 : atI [V.int a, .int b, .int c] 0 = some (.int a) := rfl
    have i1 : atI [V.int a, .int b, .int c] 1 = some (.int b) := rfl
    have i2 : atI [V.int a, .int b, .int c] 2 = some (.int c) := rfl
    refine ⟨_, (pss_cons (ps_if (pt_cmpR op_gt (pe_ix ix_list (pv 0) pe_int (fun _ _ => rfl)) pe_int (nomark _))
      (pss_cons (ps_set (i := 2) sc_law_draw.nd rfl (.inl rfl) (pe_op op_mod (pe_ix ix_list (pv 0) pe_int (fun _ _ => rfl)) (pv 1)))
      (pss_cons (ps_asg (pe_op op_fdiv (pe_ix ix_list (pv 0) pe_int (fun _ _ => rfl)) (pv 1)) (pg_sub (pv 0) pe_int set_list))
      (pss_one (ps_ret (pv 2)))))
      pss_nil)
      (pss_cons (ps_asg (pe_op op_add (pe_ix ix_list (pv 0) pe_int (fun _ _ => rfl)) pe_int) (pg_sub (pv 0) pe_int set_list))
      (pss_cons (ps_set (i := 3) sc_law_draw.nd rfl (.inl rfl) (pe_op op_mod (pe_op op_mul (pe_op op_add (pe_op op_add (pe_ix ix_list (pv 0) pe_int (fun _ _ => rfl)) (pe_op op_mul pe_int (pe_ix ix_list (pv 0) pe_int (fun _ _ => rfl)))) pe_int) pe_int) pe_int))
      (pss_cons (ps_set (i := 3) sc_law_draw.nd rfl (.inl rfl) (pe_op op_mod (pe_op op_mul (pv 3) (pe_op op_add (pe_op op_fdiv (pv 3) pe_int) pe_int)) pe_int))
      (pss_one (ps_ret (pe_op op_mod (pe_op op_mod (pe_op op_mul (pv 3) (pe_op op_add (pe_op op_fdiv (pv 3) pe_int) pe_int)) pe_int) (pv 1)))))))), ?_⟩
    refine ⟨.ref W, rfl, W, _, 0, _, rfl, rfl, SqL.of hW, i0, a, 0, rfl, rfl, _, rfl, ite2 (fun e => ?_) (fun e => ?_)⟩
    · refine ⟨.ref W, rfl, W, _, 0, _, rfl, rfl, SqL.of hW, i0, .int m, rfl, a, m, rfl, rfl, m0, ?_⟩
      refine ⟨.ref W, rfl, W, _, 0, _, rfl, rfl, SqL.of hW, i0, .int m, rfl, a, m, rfl, rfl, ⟨m0, m1⟩, .ref W, rfl, W, _, 0, 0, rfl, rfl, hW, rfl, ?_⟩
      exact ⟨_, rfl, q _ _ (mod_lt m0).1 (mod_lt m0).2 ((Wx.refl hI).set _ _ _)⟩
    · refine ⟨.ref W, rfl, W, _, 2, _, rfl, rfl, SqL.of hW, i2, c, 1, rfl, rfl, .ref W, rfl, W, _, 2, 2, rfl, rfl, hW, rfl, ?_⟩
      have hW' : (upd H W (W3 a b (c + 1))) W = some (W3 a b (c + 1)) := upd_same
      have j1 : atI [V.int a, .int b, .int (c + 1)] 1 = some (.int b) := rfl
      have j2 : atI [V.int a, .int b, .int (c + 1)] 2 = some (.int (c + 1)) := rfl
      refine ⟨.ref W, rfl, W, _, 1, _, rfl, rfl, SqL.of hW', j1, .ref W, rfl, W, _, 2, _, rfl, rfl, SqL.of hW', j2, 7919, _, rfl, rfl, .inl (by decide), b, _, rfl, rfl, _, 1, rfl, rfl, _, 48271, rfl, rfl, .inr (by decide), _, 2147483647, rfl, rfl, (show (0 : Int) < 2147483647 by decide), ?_⟩
      refine ⟨_, rfl, _, rfl, _, 1009, rfl, rfl, ⟨by decide, by decide⟩, _, 69621, rfl, rfl, _, _, rfl, rfl, cmul_of (mod_lt (by decide)), _, 2147483647, rfl, rfl, (show (0 : Int) < 2147483647 by decide), ?_⟩
      refine ⟨_, rfl, _, rfl, _, 2003, rfl, rfl, ⟨by decide, by decide⟩, _, 40692, rfl, rfl, _, _, rfl, rfl, cmul_of (mod_lt (by decide)), _, 2147483399, rfl, rfl, (show (0 : Int) < 2147483399 by decide), .int m, rfl, _, m, rfl, rfl, m0, ?_⟩
      exact q _ _ (mod_lt m0).1 (mod_lt m0).2 ((Wx.refl hI).set _ _ _)
end
end My
namespace My
open PySem PySem.Spec PyProof.Rows L2 TL
/-! ### texts and lists -/
theorem atI_in {α : Type} {xs : List α} {r : Int} (h0 : 0 ≤ r) (h1 : r < xs.length) : ∃ c, c ∈ xs ∧ atI xs r = some c := by
  obtain ⟨n, rfl⟩ : ∃ n : Nat, r = n := ⟨r.toNat, by omega⟩
  have hn : n < xs.length := by omega
  exact ⟨xs[n], List.getElem_mem hn, atI_nat (List.getElem?_eq_getElem hn)⟩
theorem len_tl (z : Str) : z.cps.toList.length = z.length := Array.length_toList
theorem joinL_one : ∀ t : List Nat, joinL [] (t.map fun c => [c]) = t
  | [] => rfl
  | [c] => rfl
  | c :: d :: r => by
    show [c] ++ ([] ++ joinL [] ((d :: r).map fun c => [c])) = c :: d :: r
    rw [joinL_one (d :: r)]
    rfl
theorem join_signs (y : Str) (hy : y.cps.toList = []) (t : List Nat) : Txt.join y (t.map fun c => (⟨#[c]⟩ : Str)) = ⟨t.toArray⟩ := by
  have e : tl (Txt.join y (t.map fun c => (⟨#[c]⟩ : Str))) = t := by
    rw [join_eq, tl_join, List.map_map]
    show joinL (y.cps.toList) (t.map fun c => [c]) = t
    rw [hy, joinL_one]
  rw [← mk_tl (Txt.join y (t.map fun c => (⟨#[c]⟩ : Str))), e]
theorem joinL_len (S : List Nat) : ∀ ps : List (List Nat), (joinL S ps).length ≤ (ps.map List.length).sum + ps.length * S.length
  | [] => Nat.zero_le _
  | [p] => by
    show p.length ≤ p.length + 0 + 1 * S.length
    omega
  | p :: q :: r => by
    have ih := joinL_len S (q :: r)
    show (p ++ (S ++ joinL S (q :: r))).length ≤ p.length + ((q :: r).map List.length).sum + ((q :: r).length + 1) * S.length
    rw [List.length_append, List.length_append, Nat.add_mul]
    omega
theorem join_len (y : Str) (ps : List Str) : (Txt.join y ps).length ≤ (ps.map (·.length)).sum + ps.length * y.length := by
  have h := joinL_len (tl y) (ps.map tl)
  rw [← tl_join, ← join_eq, List.map_map, List.length_map] at h
  have e : (ps.map (List.length ∘ tl)) = ps.map (·.length) := List.map_congr_left fun z _ => len_tl z
  rw [e] at h
  have e2 : (tl (Txt.join y ps)).length = (Txt.join y ps).length := len_tl _
  have e3 : (tl y).length = y.length := len_tl _
  rw [e2, e3] at h
  exact h
theorem sum_ones (t : List Nat) : ((t.map fun c => (⟨#[c]⟩ : Str)).map (·.length)).sum = t.length := by
  induction t with
  | nil => rfl
  | cons c r ih =>
    show 1 + ((r.map fun c => (⟨#[c]⟩ : Str)).map (·.length)).sum = r.length + 1
    rw [ih]
    omega
theorem sum_le {b : Nat} : ∀ ps : List Str, (∀ z ∈ ps, z.length ≤ b) → (ps.map (·.length)).sum ≤ ps.length * b
  | [], _ => Nat.zero_le _
  | z :: r, h => by
    have ih := sum_le r fun y hy => h y (List.mem_cons_of_mem _ hy)
    have hz := h z (List.mem_cons_self ..)
    show z.length + (r.map (·.length)).sum ≤ (r.length + 1) * b
    rw [Nat.add_mul]
    omega
theorem len_app (a b : Str) : (a ++ b).length = a.length + b.length := Array.size_append
theorem cutS_len (z : Str) (lo hi : Option Int) : (cutS z lo hi).length ≤ z.length := by
  show ((z.cps.toList.drop _).take _).toArray.size ≤ _
  rw [List.size_toArray, List.length_take, List.length_drop, len_tl]
  omega
theorem szl {n : Nat} (h : n ≤ 100000) : n ≤ sizeLine := Nat.le_trans h (by decide)
theorem szlt {n : Nat} (h : n < 100000) : n < sizeLine := Nat.lt_of_lt_of_le h (by decide)
section
variable {P : Program} {w : World} {K : PySem.W.Frag} {mg : Str → Option Value} {base : Heap}
def spSigns : Sp := fun vs H Q _ => ∃ (W : Addr) (z : Str) (m : Int), vs = [.ref W, .str z, .int m] ∧ 0 < z.length ∧ z.length ≤ 1000 ∧ 0 ≤ m ∧ m ≤ 1000 ∧ IsW H W ∧
  ∀ (t : List Nat) H', t.length = m.toNat → (∀ c ∈ t, c ∈ z.cps.toList) → Wx W H H' → Q (.str ⟨t.toArray⟩) H'
theorem ok_law_signs (T : Txt K mg) : FnOk P w K mg base CX0 2 T.f_law_signs T.fd_law_signs ["_law_well_here", "_law_some", "_law_many"] spSigns := by
  refine T.d_law_signs.F.ok sc_law_signs (fun vs H Q E h => ?_) (fun cdv A outer s H vs Q E hr h => ?_)
  · obtain ⟨W, z, m, rfl, _⟩ := h
    rfl
  · obtain ⟨W, z, m, rfl, z0, z1, m0, m1, hI, q⟩ := h
    refine ⟨_, (pss_one (ps_ret (pe_join pe_str (pe_lc (own := [("_law_k", 3)]) (g := gName 3) (tt := tYes) (by rfl) sc_law_signs.nd (pi_range1 (by rfl) T.m_range (pa_cons (pv 2) pa_nil)) (blkOk_by (own := [("_law_k", 3)]) (N := ["_law_well_here", "_law_some", "_law_many", "_law_k"]) (sc := defScope s_law_signs) (by decide +kernel)) (fun _ _ _ _ _ => (pg_name (i := 3) sc_law_signs.nd rfl (Or.inl rfl))) (fun _ _ _ _ _ => pts_nil) (fun _ _ _ _ _ => (pe_ix ix_str (pv 1) (pe_call (ok_law_draw T) (hr.mono (by decide)) (by rfl) T.d_law_draw.g T.d_law_draw.F.kp T.d_law_draw.b .nil pass0 (pa_cons (pv 0) (pa_cons (pe_callB call_len_str (by rfl) T.m_len (by decide +kernel) (pa_cons (pv 1) pa_nil)) pa_nil))) (fun _ _ => rfl))))))), ?_⟩
    refine ⟨⟨_, rfl⟩, .int m, rfl, m, rfl, by omega, by omega, fun D hD => ?_⟩
    have nD : W ≠ D := hI.ne hD
    refine lc_range (lo := 0) (n := m.toNat) (fun i H' => ∃ t : List Nat, t.length = i ∧ (∀ c ∈ t, c ∈ z.cps.toList) ∧ Wx W H H' ∧ H' D = some (.lst (t.map fun c => V.str ⟨#[c]⟩)))
      ⟨[], rfl, (fun _ h => nomatch h), (Wx.refl hI).new hD, upd_same⟩ ?_ ?_
    · rintro i H' hi ⟨t, tn, tz, x, hD'⟩
      refine ⟨rfl, ?_⟩
      refine ⟨.str z, rfl, .ref W, rfl, .str z, rfl, z, rfl, szl (by omega), W, _, rfl, by omega, by omega, x.well, fun r H5 r0 r1 x5 => ?_⟩
      obtain ⟨c, hc, ec⟩ := atI_in (xs := z.cps.toList) r0 (by rw [len_tl]; omega)
      refine ⟨z, r, c, rfl, rfl, szl (by omega), ec, _, x5.keep D _ nD.symm hD', ?_, t ++ [c], ?_, ?_, (x.trans x5).mut hD nD, ?_⟩
      · rw [List.length_map]
        exact szlt (by omega)
      · rw [List.length_append, tn]
        rfl
      · intro d hd
        rcases List.mem_append.mp hd with h | h
        · exact tz d h
        · rw [List.mem_singleton.mp h]
          exact hc
      · rw [upd_same, List.map_append]
        rfl
    · rintro H' ⟨t, tn, tz, x, hD'⟩
      refine ⟨_, D, t.map fun c => (⟨#[c]⟩ : Str), rfl, rfl, .inl (SqL.of (by rw [hD', List.map_map]; rfl)), ?_, ?_⟩
      · rw [sum_ones, List.length_map]
        show t.length + t.length * 0 ≤ _
        omega
      · rw [join_signs _ rfl]
        exact q t H' tn tz x
end
end My
namespace My
open PySem PySem.Spec PyProof.Rows L2 TL
theorem ints_at {ns : List Int} {r : Int} (h0 : 0 ≤ r) (h1 : r < ns.length) : ∃ n, n ∈ ns ∧ atI (ns.map V.int) r = some (.int n) := by
  obtain ⟨v, hv, ev⟩ := atI_in (xs := ns.map V.int) h0 (by rw [List.length_map]; exact h1)
  obtain ⟨n, hn, rfl⟩ := List.mem_map.mp hv
  exact ⟨n, hn, ev⟩
theorem strs_at {ns : List Str} {r : Int} (h0 : 0 ≤ r) (h1 : r < ns.length) : ∃ n, n ∈ ns ∧ atI (ns.map V.str) r = some (.str n) := by
  obtain ⟨v, hv, ev⟩ := atI_in (xs := ns.map V.str) h0 (by rw [List.length_map]; exact h1)
  obtain ⟨n, hn, rfl⟩ := List.mem_map.mp hv
  exact ⟨n, hn, ev⟩
theorem mk_len (t : List Nat) : (⟨t.toArray⟩ : Str).length = t.length := List.size_toArray
section
variable {P : Program} {w : World} {K : PySem.W.Frag} {mg : Str → Option Value} {base : Heap}
def spText (b : Nat) : Sp := fun vs H Q _ => ∃ (W : Addr), vs = [.ref W] ∧ IsW H W ∧ ∀ t H', t.length ≤ b → Wx W H H' → Q (.str t) H'
theorem ok_law_name (T : Txt K mg) : FnOk P w K mg base CX0 3 T.f_law_name T.fd_law_name ["_law_well_here"] (spText 9) := by
  refine T.d_law_name.F.ok sc_law_name (fun vs H Q E h => ?_) (fun cdv A outer s H vs Q E hr h => ?_)
  · obtain ⟨W, rfl, _⟩ := h
    rfl
  · obtain ⟨W, rfl, hI, q⟩ := h
    refine ⟨_, (pss_cons (ps_set (i := 1) sc_law_name.nd rfl (.inl rfl) (pe_ix ix_list (pe_lst (pa_cons pe_int (pa_cons pe_int (pa_cons pe_int (pa_cons pe_int (pa_cons pe_int (pa_cons pe_int (pa_cons pe_int (pa_cons pe_int (pa_cons pe_int (pa_cons pe_int pa_nil))))))))))) (pe_call (ok_law_draw T) (hr.mono (by decide)) (by rfl) T.d_law_draw.g T.d_law_draw.F.kp T.d_law_draw.b .nil pass0 (pa_cons (pv 0) (pa_cons pe_int pa_nil))) (fun _ _ => rfl)))
      (pss_one (ps_ret (pe_call (ok_law_signs T) (hr.mono (by decide)) (by rfl) T.d_law_signs.g T.d_law_signs.F.kp T.d_law_signs.b .nil pass0 (pa_cons (pv 0) (pa_cons pe_str (pa_cons (pv 1) pa_nil))))))), ?_⟩
    refine ⟨(by show 10 ≤ sizeLine; decide), fun p hp => ?_⟩
    have x0 := (Wx.refl hI).new (o := .lst (([0, 8, 9, 1, 2, 3, 4, 5, 6, 7] : List Int).map V.int)) hp
    refine ⟨.ref W, rfl, W, 10, rfl, by decide, by decide, x0.well, fun r H1 r0 r1 x1 => ?_⟩
    obtain ⟨n, hn, en⟩ := ints_at (ns := [0, 8, 9, 1, 2, 3, 4, 5, 6, 7]) r0 r1
    have bn : 0 ≤ n ∧ n ≤ 9 := (by decide : ∀ n ∈ ([0, 8, 9, 1, 2, 3, 4, 5, 6, 7] : List Int), 0 ≤ n ∧ n ≤ 9) n hn
    refine ⟨p, _, r, _, rfl, rfl, SqL.of (x1.keep p _ (hI.ne hp).symm upd_same), en, ?_⟩
    refine ⟨.ref W, rfl, .int n, rfl, W, _, n, rfl, by decide, by decide, bn.1, by omega, x1.well, fun t H2 tn tz x2 => ?_⟩
    exact q _ H2 (by rw [mk_len]; omega) ((x0.trans x1).trans x2)
theorem ok_law_figures (T : Txt K mg) : FnOk P w K mg base CX0 3 T.f_law_figures T.fd_law_figures ["_law_well_here"] (spText 100) := by
  refine T.d_law_figures.F.ok sc_law_figures (fun vs H Q E h => ?_) (fun cdv A outer s H vs Q E hr h => ?_)
  · obtain ⟨W, rfl, _⟩ := h
    rfl
  · obtain ⟨W, rfl, hI, q⟩ := h
    refine ⟨_, (pss_cons (ps_set (i := 1) sc_law_figures.nd rfl (.inl rfl) (pe_call (ok_law_draw T) (hr.mono (by decide)) (by rfl) T.d_law_draw.g T.d_law_draw.F.kp T.d_law_draw.b .nil pass0 (pa_cons (pv 0) (pa_cons pe_int pa_nil))))
      (pss_cons (ps_if (pt_cmpR op_eq (pv 1) pe_int (nomark _))
      (pss_one (ps_ret pe_str))
      pss_nil)
      (pss_cons (ps_set (i := 2) sc_law_figures.nd rfl (.inl rfl) (pe_ix ix_list (pe_lst (pa_cons pe_int (pa_cons pe_int (pa_cons pe_int (pa_cons pe_int (pa_cons pe_int (pa_cons pe_int (pa_cons pe_int (pa_cons pe_int pa_nil))))))))) (pv 1) (fun _ _ => rfl)))
      (pss_cons (ps_set (i := 3) sc_law_figures.nd rfl (.inl rfl) (pe_call (ok_law_signs T) (hr.mono (by decide)) (by rfl) T.d_law_signs.g T.d_law_signs.F.kp T.d_law_signs.b .nil pass0 (pa_cons (pv 0) (pa_cons pe_str (pa_cons (pe_callTy call_int1 (by rfl) T.m_int (by decide +kernel) (pa_cons (pe_cmpR op_gt (pv 2) pe_int (nomark _)) pa_nil)) pa_nil)))))
      (pss_one (ps_ret (pe_op op_add_str (pv 3) (pe_call (ok_law_signs T) (hr.mono (by decide)) (by rfl) T.d_law_signs.g T.d_law_signs.F.kp T.d_law_signs.b .nil pass0 (pa_cons (pv 0) (pa_cons pe_str (pa_cons (pe_callB (call_max2 rfl) (by rfl) T.m_max (by decide +kernel) (pa_cons pe_int (pa_cons (pe_op op_sub (pv 2) pe_int) pa_nil))) pa_nil))))))))))), ?_⟩
    refine ⟨.ref W, rfl, W, 8, rfl, by decide, by decide, hI, fun r H1 r0 r1 x1 => ?_⟩
    refine ⟨.int r, rfl, rfl, _, rfl, ite2 (fun e => ?_) (fun e => ?_)⟩
    · exact q _ H1 (by decide) x1
    · refine ⟨(by show 8 ≤ sizeLine; decide), fun p hp => ?_⟩
      have x2 := x1.new (o := .lst (([0, 60, 61, 1, 2, 59, 12, 3] : List Int).map V.int)) hp
      obtain ⟨n, hn, en⟩ := ints_at (ns := [0, 60, 61, 1, 2, 59, 12, 3]) r0 r1
      have bn : 0 ≤ n ∧ n ≤ 61 := (by decide : ∀ n ∈ ([0, 60, 61, 1, 2, 59, 12, 3] : List Int), 0 ≤ n ∧ n ≤ 61) n hn
      refine ⟨.int r, rfl, p, _, r, _, rfl, rfl, SqL.of upd_same, en, ?_⟩
      refine ⟨.ref W, rfl, .int n, rfl, n, 0, rfl, rfl, .inr ⟨_, rfl, ?_⟩⟩
      refine ⟨W, _, _, rfl, by decide, by decide, by split <;> decide, by split <;> decide, x2.well, fun t H2 tn tz x3 => ?_⟩
      have bt : t.length ≤ 1 := by
        rw [tn]
        split <;> decide
      refine ⟨_, rfl, .ref W, rfl, .int n, rfl, n, 1, rfl, rfl, 0, n - 1, rfl, ?_⟩
      refine ⟨W, _, _, rfl, by decide, by decide, by split <;> omega, by split <;> omega, x3.well, fun t2 H3 tn2 tz2 x4 => ?_⟩
      have bt2 : t2.length ≤ 61 := by
        rw [tn2]
        split <;> omega
      refine ⟨_, _, rfl, rfl, by rw [mk_len, mk_len]; exact szl (by omega), q _ H3 (by rw [len_app, mk_len, mk_len]; omega) ((x2.trans x3).trans x4)⟩
theorem ok_law_any_sign (T : Txt K mg) : FnOk P w K mg base CX0 2 T.f_law_any_sign T.fd_law_any_sign ["_law_well_here"] (spText 1) := by
  refine T.d_law_any_sign.F.ok sc_law_any_sign (fun vs H Q E h => ?_) (fun cdv A outer s H vs Q E hr h => ?_)
  · obtain ⟨W, rfl, _⟩ := h
    rfl
  · obtain ⟨W, rfl, hI, q⟩ := h
    refine ⟨_, (pss_cons (ps_set (i := 1) sc_law_any_sign.nd rfl (.inl rfl) pe_str)
      (pss_one (ps_ret (pe_ix ix_str (pv 1) (pe_call (ok_law_draw T) (hr.mono (by decide)) (by rfl) T.d_law_draw.g T.d_law_draw.F.kp T.d_law_draw.b .nil pass0 (pa_cons (pv 0) (pa_cons (pe_callB call_len_str (by rfl) T.m_len (by decide +kernel) (pa_cons (pv 1) pa_nil)) pa_nil))) (fun _ _ => rfl))))), ?_⟩
    refine ⟨_, rfl, .ref W, rfl, _, rfl, _, rfl, by decide, W, _, rfl, by decide, by decide, hI, fun r H1 r0 r1 x1 => ?_⟩
    obtain ⟨c, hc, ec⟩ := atI_in r0 (by rw [len_tl]; exact r1)
    exact ⟨_, r, c, rfl, rfl, by decide, ec, q _ H1 (Nat.le_refl _) x1⟩
theorem ok_law_path (T : Txt K mg) : FnOk P w K mg base CX0 4 T.f_law_path T.fd_law_path ["_law_well_here"] (spText 100) := by
  refine T.d_law_path.F.ok sc_law_path (fun vs H Q E h => ?_) (fun cdv A outer s H vs Q E hr h => ?_)
  · obtain ⟨W, rfl, _⟩ := h
    rfl
  · obtain ⟨W, rfl, hI, q⟩ := h
    refine ⟨_, (pss_cons (ps_set (i := 1) sc_law_path.nd rfl (.inl rfl) (pe_ix ix_list (pe_lst (pa_cons pe_int (pa_cons pe_int (pa_cons pe_int (pa_cons pe_int (pa_cons pe_int (pa_cons pe_int pa_nil))))))) (pe_call (ok_law_draw T) (hr.mono (by decide)) (by rfl) T.d_law_draw.g T.d_law_draw.F.kp T.d_law_draw.b .nil pass0 (pa_cons (pv 0) (pa_cons pe_int pa_nil))) (fun _ _ => rfl)))
      (pss_cons (ps_set (i := 2) sc_law_path.nd rfl (.inl rfl) (pe_lst pa_nil))
      (pss_cons (ps_for PassesOwn.never rfl (pi_range1 (by rfl) T.m_range (pa_cons (pv 1) pa_nil)) (pg_name (i := 3) sc_law_path.nd rfl (.inl rfl))
      (pss_cons (ps_set (i := 4) sc_law_path.nd rfl (.inl rfl) (pe_op op_add pe_int (pe_call (ok_law_draw T) (hr.mono (by decide)) (by rfl) T.d_law_draw.g T.d_law_draw.F.kp T.d_law_draw.b .nil pass0 (pa_cons (pv 0) (pa_cons pe_int pa_nil)))))
      (pss_one (ps_expr (pe_bm PySem.F.plainAttrs_list PySem.F.slot_list_append PySem.F.type_list_append mt_append (pv 2) (pa_cons (pe_call (ok_law_signs T) (hr.mono (by decide)) (by rfl) T.d_law_signs.g T.d_law_signs.F.kp T.d_law_signs.b .nil pass0 (pa_cons (pv 0) (pa_cons pe_str (pa_cons (pv 4) pa_nil)))) pa_nil))))))
      (pss_cons (ps_set (i := 5) sc_law_path.nd rfl (.inl rfl) (pe_call (ok_law_draw T) (hr.mono (by decide)) (by rfl) T.d_law_draw.g T.d_law_draw.F.kp T.d_law_draw.b .nil pass0 (pa_cons (pv 0) (pa_cons pe_int pa_nil))))
      (pss_cons (ps_if (pt_cmpR op_eq (pv 5) pe_int (nomark _))
      (pss_one (ps_asg (pe_call (ok_law_name T) (hr.mono (by decide)) (by rfl) T.d_law_name.g T.d_law_name.F.kp T.d_law_name.b .nil pass0 (pa_cons (pv 0) pa_nil)) (pg_sub (pv 2) (pe_call (ok_law_draw T) (hr.mono (by decide)) (by rfl) T.d_law_draw.g T.d_law_draw.F.kp T.d_law_draw.b .nil pass0 (pa_cons (pv 0) (pa_cons (pv 1) pa_nil))) set_list)))
      pss_nil)
      (pss_one (ps_ret (pe_join pe_str (pv 2))))))))), ?_⟩
    refine ⟨(by show 6 ≤ sizeLine; decide), fun p hp => ?_⟩
    have x0 := (Wx.refl hI).new (o := .lst (([1, 2, 3, 4, 5, 4] : List Int).map V.int)) hp
    refine ⟨.ref W, rfl, W, 6, rfl, by decide, by decide, x0.well, fun r H1 r0 r1 x1 => ?_⟩
    obtain ⟨m, hm, em⟩ := ints_at (ns := [1, 2, 3, 4, 5, 4]) r0 r1
    have bm : 1 ≤ m ∧ m ≤ 5 := (by decide : ∀ n ∈ ([1, 2, 3, 4, 5, 4] : List Int), 1 ≤ n ∧ n ≤ 5) m hm
    refine ⟨p, _, r, _, rfl, rfl, SqL.of (x1.keep p _ (hI.ne hp).symm upd_same), em, ?_⟩
    have x01 := x0.trans x1
    refine ⟨Nat.zero_le _, fun L hL => ?_⟩
    have nL : W ≠ L := x1.well.ne hL
    have hL0 : H L = none := x01.free hL
    refine ⟨.int m, rfl, m, rfl, by omega, by omega, for_range (lo := 0) (n := m.toNat) (fun i σ H' => ∃ ts : List Str, ts.length = i ∧ (∀ z ∈ ts, z.length ≤ 9) ∧ Wx W H H' ∧ H' L = some (.lst (ts.map V.str)) ∧ ∃ y3 y4, σ = [some (.ref W), some (.int m), some (.ref L), y3, y4, none])
      ⟨[], rfl, (fun _ h => nomatch h), x01.new hL, upd_same, none, none, rfl⟩ ?_ ?_⟩
    · rintro i σ H' hi ⟨ts, tn, tz, x, eL, y3, y4, rfl⟩
      refine ⟨.ref W, rfl, W, 8, rfl, by decide, by decide, x.well, fun r2 H2 r20 r21 x2 => ?_⟩
      have eL2 := x2.keep L _ nL.symm eL
      refine ⟨1, r2, rfl, rfl, .ref L, rfl, .inl ⟨rfl, _, SqL.of eL2⟩, .ref W, rfl, _, rfl, W, _, _, rfl, by decide, by decide, by omega, by omega, x2.well, fun t H3 tn3 tz3 x3 => ?_⟩
      have eL3 := x3.keep L _ nL.symm eL2
      refine ⟨L, _, _, rfl, rfl, eL3, by rw [List.length_map]; exact szlt (by omega), ts ++ [⟨t.toArray⟩], by rw [List.length_append, tn]; rfl, ?_, ((x.trans x2).trans x3).mut hL0 nL, by rw [upd_same, List.map_append]; rfl, _, _, rfl⟩
      intro z hz
      rcases List.mem_append.mp hz with h | h
      · exact tz z h
      · rw [List.mem_singleton.mp h, mk_len]
        omega
    · rintro σ H' ⟨ts, tn, tz, x, eL, y3, y4, rfl⟩
      refine ⟨.ref W, rfl, W, 5, rfl, by decide, by decide, x.well, fun r2 H2 r20 r21 x2 => ?_⟩
      have eL2 := x2.keep L _ nL.symm eL
      refine ⟨.int r2, rfl, rfl, _, rfl, ite2 (fun e => ?_) (fun e => ?_)⟩
      · refine ⟨.ref W, rfl, W, rfl, x2.well, fun t H3 tn3 x3 => ?_⟩
        have eL3 := x3.keep L _ nL.symm eL2
        refine ⟨.ref L, rfl, .ref W, rfl, .int m, rfl, W, m, rfl, by omega, by omega, x3.well, fun r4 H4 r40 r41 x4 => ?_⟩
        have eL4 := x4.keep L _ nL.symm eL3
        obtain ⟨j, rfl⟩ : ∃ j : Nat, r4 = j := ⟨r4.toNat, by omega⟩
        refine ⟨L, _, _, j, rfl, rfl, eL4, ?_, ?_⟩
        · unfold ixN
          rw [if_pos (by omega), if_pos (by rw [List.length_map]; omega)]
          rfl
        · refine ⟨⟨_, rfl⟩, .ref L, rfl, _, L, ts.set j t, rfl, rfl, .inl (SqL.of (by rw [upd_same, List.map_set])), ?_, ?_⟩
          · have hb : ∀ z ∈ ts.set j t, z.length ≤ 9 := fun z hz => by
              rcases List.mem_or_eq_of_mem_set hz with h | h
              · exact tz z h
              · rw [h]
                exact tn3
            have h1 := sum_le (b := 9) _ hb
            rw [List.length_set] at h1 ⊢
            show _ + ts.length * 1 ≤ _
            omega
          · refine q _ _ ?_ ((((x.trans x2).trans x3).trans x4).mut hL0 nL)
            have hb : ∀ z ∈ ts.set j t, z.length ≤ 9 := fun z hz => by
              rcases List.mem_or_eq_of_mem_set hz with h | h
              · exact tz z h
              · rw [h]
                exact tn3
            have h1 := sum_le (b := 9) _ hb
            have h2 := join_len "/" (ts.set j t)
            rw [List.length_set] at h1 h2
            have h3 : ("/" : Str).length = 1 := by decide
            rw [h3] at h2
            omega
      · refine ⟨⟨_, rfl⟩, .ref L, rfl, _, L, ts, rfl, rfl, .inl (SqL.of eL2), ?_, ?_⟩
        · have h1 := sum_le (b := 9) _ tz
          show _ + ts.length * 1 ≤ _
          omega
        · refine q _ _ ?_ (x.trans x2)
          have h1 := sum_le (b := 9) _ tz
          have h2 := join_len "/" ts
          have h3 : ("/" : Str).length = 1 := by decide
          rw [h3] at h2
          omega
theorem ok_law_good (T : Txt K mg) : FnOk P w K mg base CX0 5 T.f_law_good T.fd_law_good ["_law_well_here"] (spText 200) := by
  refine T.d_law_good.F.ok sc_law_good (fun vs H Q E h => ?_) (fun cdv A outer s H vs Q E hr h => ?_)
  · obtain ⟨W, rfl, _⟩ := h
    rfl
  · obtain ⟨W, rfl, hI, q⟩ := h
    refine ⟨_, (pss_cons (ps_set (i := 1) sc_law_good.nd rfl (.inl rfl) (pe_call (ok_law_draw T) (hr.mono (by decide)) (by rfl) T.d_law_draw.g T.d_law_draw.F.kp T.d_law_draw.b .nil pass0 (pa_cons (pv 0) (pa_cons pe_int pa_nil))))
      (pss_cons (ps_if (pt_cmpR op_eq (pv 1) pe_int (nomark _))
      (pss_one (ps_ret (pe_call (ok_law_name T) (hr.mono (by decide)) (by rfl) T.d_law_name.g T.d_law_name.F.kp T.d_law_name.b .nil pass0 (pa_cons (pv 0) pa_nil))))
      pss_nil)
      (pss_cons (ps_if (pt_cmpR op_eq (pv 1) pe_int (nomark _))
      (pss_cons (ps_set (i := 2) sc_law_good.nd rfl (.inl rfl) (pe_ix ix_list (pe_lst (pa_cons pe_int (pa_cons pe_int (pa_cons pe_int (pa_cons pe_int (pa_cons pe_int (pa_cons pe_int (pa_cons pe_int (pa_cons pe_int (pa_cons pe_int pa_nil)))))))))) (pe_call (ok_law_draw T) (hr.mono (by decide)) (by rfl) T.d_law_draw.g T.d_law_draw.F.kp T.d_law_draw.b .nil pass0 (pa_cons (pv 0) (pa_cons pe_int pa_nil))) (fun _ _ => rfl)))
      (pss_one (ps_ret (pe_call (ok_law_signs T) (hr.mono (by decide)) (by rfl) T.d_law_signs.g T.d_law_signs.F.kp T.d_law_signs.b .nil pass0 (pa_cons (pv 0) (pa_cons pe_str (pa_cons (pv 2) pa_nil)))))))
      pss_nil)
      (pss_cons (ps_if (pt_cmpR op_eq (pv 1) pe_int (nomark _))
      (pss_one (ps_ret (pe_call (ok_law_path T) (hr.mono (by decide)) (by rfl) T.d_law_path.g T.d_law_path.F.kp T.d_law_path.b .nil pass0 (pa_cons (pv 0) pa_nil))))
      pss_nil)
      (pss_cons (ps_if (pt_cmpR op_eq (pv 1) pe_int (nomark _))
      (pss_one (ps_ret (pe_call (ok_law_figures T) (hr.mono (by decide)) (by rfl) T.d_law_figures.g T.d_law_figures.F.kp T.d_law_figures.b .nil pass0 (pa_cons (pv 0) pa_nil))))
      pss_nil)
      (pss_cons (ps_set (i := 3) sc_law_good.nd rfl (.inl rfl) (pe_ix ix_list (pe_lst (pa_cons pe_str (pa_cons pe_str (pa_cons pe_str (pa_cons pe_str (pa_cons pe_str (pa_cons pe_str (pa_cons pe_str pa_nil)))))))) (pe_call (ok_law_draw T) (hr.mono (by decide)) (by rfl) T.d_law_draw.g T.d_law_draw.F.kp T.d_law_draw.b .nil pass0 (pa_cons (pv 0) (pa_cons pe_int pa_nil))) (fun _ _ => rfl)))
      (pss_one (ps_ret (pe_op op_add_str (pv 3) (pe_call (ok_law_figures T) (hr.mono (by decide)) (by rfl) T.d_law_figures.g T.d_law_figures.F.kp T.d_law_figures.b .nil pass0 (pa_cons (pv 0) pa_nil))))))))))), ?_⟩
    refine ⟨.ref W, rfl, W, 5, rfl, by decide, by decide, hI, fun r H1 r0 r1 x1 => ?_⟩
    refine ⟨.int r, rfl, rfl, _, rfl, ite2 (fun e => ?_) (fun e => ?_)⟩
    · exact ⟨.ref W, rfl, W, rfl, x1.well, fun t H3 tn3 x3 => q _ _ (by omega) (x1.trans x3)⟩
    refine ⟨.int r, rfl, rfl, _, rfl, ite2 (fun e => ?_) (fun e => ?_)⟩
    · refine ⟨(by show 9 ≤ sizeLine; decide), fun p hp => ?_⟩
      have x2 := x1.new (o := .lst (([12, 13, 0, 1, 2, 3, 5, 8, 11] : List Int).map V.int)) hp
      refine ⟨.ref W, rfl, W, 9, rfl, by decide, by decide, x2.well, fun r3 H3 r30 r31 x3 => ?_⟩
      obtain ⟨n, hn, en⟩ := ints_at (ns := [12, 13, 0, 1, 2, 3, 5, 8, 11]) r30 r31
      have bn : 0 ≤ n ∧ n ≤ 13 := (by decide : ∀ n ∈ ([12, 13, 0, 1, 2, 3, 5, 8, 11] : List Int), 0 ≤ n ∧ n ≤ 13) n hn
      refine ⟨p, _, r3, _, rfl, rfl, SqL.of (x3.keep p _ (x1.well.ne hp).symm upd_same), en, ?_⟩
      refine ⟨.ref W, rfl, .int n, rfl, W, _, n, rfl, by decide, by decide, bn.1, by omega, x3.well, fun t H2 tn tz x4 => ?_⟩
      exact q _ H2 (by rw [mk_len]; omega) ((x2.trans x3).trans x4)
    refine ⟨.int r, rfl, rfl, _, rfl, ite2 (fun e => ?_) (fun e => ?_)⟩
    · exact ⟨.ref W, rfl, W, rfl, x1.well, fun t H3 tn3 x3 => q _ _ (by omega) (x1.trans x3)⟩
    refine ⟨.int r, rfl, rfl, _, rfl, ite2 (fun e => ?_) (fun e => ?_)⟩
    · exact ⟨.ref W, rfl, W, rfl, x1.well, fun t H3 tn3 x3 => q _ _ (by omega) (x1.trans x3)⟩
    refine ⟨(by show 7 ≤ sizeLine; decide), fun p hp => ?_⟩
    have x2 := x1.new (o := .lst ((["s", "w", "s", "w", "S", "x", ""] : List Str).map V.str)) hp
    refine ⟨.ref W, rfl, W, 7, rfl, by decide, by decide, x2.well, fun r3 H3 r30 r31 x3 => ?_⟩
    obtain ⟨n, hn, en⟩ := strs_at (ns := ["s", "w", "s", "w", "S", "x", ""]) r30 r31
    have bn : n.length ≤ 1 := (by decide : ∀ n ∈ (["s", "w", "s", "w", "S", "x", ""] : List Str), n.length ≤ 1) n hn
    refine ⟨p, _, r3, _, rfl, rfl, SqL.of (x3.keep p _ (x1.well.ne hp).symm upd_same), en, ?_⟩
    refine ⟨_, rfl, .ref W, rfl, W, rfl, x3.well, fun t H4 tn x4 => ?_⟩
    exact ⟨_, _, rfl, rfl, szl (by omega), q _ H4 (by rw [len_app]; omega) ((x2.trans x3).trans x4)⟩
end
end My
namespace My
open PySem PySem.Spec PyProof.Rows L2 TL
/-! ### what is asked about -/
inductive Thing (H : Hp) : V → Prop where
  | str (z : Str) (h : z.length ≤ 1000) : Thing H (.str z)
  | non : Thing H .non
  | bl (b : Bool) : Thing H (.bl b)
  | int (i : Int) : Thing H (.int i)
  | lst {p : Addr} {xs : List V} (h : H p = some (.lst xs)) : Thing H (.ref p)
  | tup {p : Addr} {xs : List V} (h : H p = some (.tup xs)) : Thing H (.ref p)
  | dK {p : Addr} {xs : List (Key × V)} (h : H p = some (.dK xs)) : Thing H (.ref p)
theorem Thing.mono {H H' : Hp} {v : V} (e : Same H H') (t : Thing H v) : Thing H' v := by
  cases t with
  | str z h => exact .str z h
  | non => exact .non
  | bl b => exact .bl b
  | int i => exact .int i
  | lst h => exact .lst (e _ _ h)
  | tup h => exact .tup (e _ _ h)
  | dK h => exact .dK (e _ _ h)
def ans (f : Str → Bool) : V → Bool
  | .str z => f z
  | _ => false
theorem Thing.two {K : PySem.W.Frag} {H : Hp} {v : V} (t : Thing H v) : (∃ z, v = .str z ∧ z.length ≤ 1000) ∨ ∃ n : String, TyX K H v (.type n) ∧ kitB n "str" = some false ∧ ∀ f, ans f v = false := by
  cases t with
  | str z h => exact .inl ⟨z, rfl, h⟩
  | non => exact .inr ⟨_, .base .non, by decide +kernel, fun _ => rfl⟩
  | bl b => exact .inr ⟨_, .base (.bl b), by decide +kernel, fun _ => rfl⟩
  | int i => exact .inr ⟨_, .base (.int i), by decide +kernel, fun _ => rfl⟩
  | lst h => exact .inr ⟨_, .base (.lst h), by decide +kernel, fun _ => rfl⟩
  | tup h => exact .inr ⟨_, .base (.tup h), by decide +kernel, fun _ => rfl⟩
  | dK h => exact .inr ⟨_, .base (.dK h), by decide +kernel, fun _ => rfl⟩
theorem kit_str {K : PySem.W.Frag} : PySem.W.kitOne K (.type "str") (.type "str") = some true := kit_ty (by decide +kernel)
/-! ### the mathematics: what each word is -/
def inB (sg z : Str) : Bool := z.cps.toList.all fun c => decide (c ∈ sg.cps.toList)
def ofB (sg : Str) (lo hi : Int) (z : Str) : Bool := (decide (lo ≤ z.length) && decide ((z.length : Int) ≤ hi)) && inB sg z
def nought (z : Str) : Bool := decide (z = "0") || !decide (z.cps.toList.head? = some 48)
def figB (z : Str) : Bool := ofB "0123456789" 1 60 z && nought z
def nameB (z : Str) : Bool := ofB "abcdefghijklmnopqrstuvwxyz" 1 8 z
def worthB (z : Str) : Bool := ofB "abcdefghijklmnopqrstuvwxyz0123456789-" 0 12 z
def pathB (z : Str) : Bool := decide (((Txt.split z "/").length : Int) ≤ 4) && (Txt.split z "/").all nameB
def markB (z : Str) : Bool := inV (.str (cutS z none (some 1))) [.str "s", .str "w"] && figB (cutS z (some 1) none)
theorem same_upd {H : Hp} {p : Addr} {o : HO} (h : H p = none) : Same H (upd H p o) := fun b x e => by
  rw [upd_ne (ne_of_none e h)]
  exact e
theorem same_mut {H H' : Hp} {p : Addr} {o : HO} (e : Same H H') (h : H p = none) : Same H (upd H' p o) := fun a u ha => by
  rw [upd_ne (ne_of_none ha h)]
  exact e a u ha
theorem take_map {α β : Type} {xs : List α} {i : Nat} {c : α} (f : α → β) (h : xs[i]? = some c) : (xs.take (i + 1)).map f = (xs.take i).map f ++ [f c] := by
  rw [List.take_add_one, h, List.map_append]
  rfl
theorem at_l {z : Str} {i c : Nat} (h : z.cps[i]? = some c) : z.cps.toList[i]? = some c := by
  rw [Array.getElem?_toList]
  exact h
section
variable {P : Program} {w : World} {K : PySem.W.Frag} {mg : Str → Option Value} {base : Heap}
def spMade : Sp := fun vs H Q _ => ∃ (v : V) (sg : Str) (lo hi : Int), vs = [v, .str sg, .int lo, .int hi] ∧ Thing H v ∧ ∀ H', Same H H' → Q (.bl (ans (ofB sg lo hi) v)) H'
theorem ok_is_made_of (T : Txt K mg) : FnOk P w K mg base CX0 1 T.f_is_made_of T.fd_is_made_of ["text", "signs", "least", "most"] spMade := by
  refine T.d_is_made_of.F.ok sc_is_made_of (fun vs H Q E h => ?_) (fun cdv A outer s H vs Q E hr h => ?_)
  · obtain ⟨v, sg, lo, hi, rfl, _⟩ := h
    rfl
  · obtain ⟨v, sg, lo, hi, rfl, th, q⟩ := h
    refine ⟨_, (pss_cons (ps_if (pt_not (pt_val (pe_callB call_isi (by rfl) T.m_isinstance (by decide +kernel) (pa_cons (pv 0) (pa_cons (pe_bltn (v := .ty "str") (by rfl) T.m_str (by decide +kernel) rfl) pa_nil)))))
      (pss_one (ps_ret pe_bl))
      pss_nil)
      (pss_cons (ps_if (PW.pt (pw_or (pt_cmpR op_lt (pe_callB call_len_str (by rfl) T.m_len (by decide +kernel) (pa_cons (pv 0) pa_nil)) (pv 2) (nomark _)) (pw_or1 (pt_cmpR op_gt (pe_callB call_len_str (by rfl) T.m_len (by decide +kernel) (pa_cons (pv 0) pa_nil)) (pv 3) (nomark _)))))
      (pss_one (ps_ret pe_bl))
      pss_nil)
      (pss_one (ps_ret (pe_callB (cr_all rfl) (by rfl) T.m_all (by decide +kernel) (pa_cons (pe_lc (own := [("sign", 4)]) (g := gName 4) (tt := tYes) (by rfl) sc_is_made_of.nd (pi_str (pv 0)) (blkOk_by (own := [("sign", 4)]) (N := ["text", "signs", "least", "most", "sign"]) (sc := defScope s_is_made_of) (by decide +kernel)) (fun _ _ _ _ _ => (pg_name (i := 4) sc_is_made_of.nd rfl (Or.inl rfl))) (fun _ _ _ _ _ => pts_nil) (fun _ _ _ _ _ => (pe_cmpR op_in_sign (pv 4) (pv 1) rfl))) pa_nil)))))), ?_⟩
    rcases th.two (K := K) with ⟨z, rfl, hz⟩ | ⟨n, ty, nk, ef⟩
    · refine ⟨.str z, rfl, .str z, .ty "str", _, _, true, rfl, .ty "str", .base (.str z), kit_str, true, rfl, ?_⟩
      refine ⟨.str z, rfl, z, rfl, szl (by omega), .int lo, rfl, _, lo, rfl, rfl, _, rfl, ite2 (fun e => ?_) (fun e => ?_)⟩
      · have h1 : (z.length : Int) < lo := of_decide_eq_true e
        have h2 := q H (Same.refl H)
        have h3 : ans (ofB sg lo hi) (.str z) = false := by
          show ((decide (lo ≤ (z.length : Int)) && decide ((z.length : Int) ≤ hi)) && inB sg z) = false
          rw [decide_eq_false (by omega)]
          rfl
        rw [h3] at h2
        exact h2
      · have h1 : ¬ (z.length : Int) < lo := fun x => e (decide_eq_true x)
        refine ⟨.str z, rfl, z, rfl, szl (by omega), .int hi, rfl, _, hi, rfl, rfl, _, rfl, ?_⟩
        show if _ = true then _ else _
        refine ite2 (fun e2 => ?_) (fun e2 => ?_)
        · have h1 : hi < (z.length : Int) := of_decide_eq_true e2
          have h2 := q H (Same.refl H)
          have h3 : ans (ofB sg lo hi) (.str z) = false := by
            show ((decide (lo ≤ (z.length : Int)) && decide ((z.length : Int) ≤ hi)) && inB sg z) = false
            rw [decide_eq_false (show ¬ (z.length : Int) ≤ hi by omega), Bool.and_false]
            rfl
          rw [h3] at h2
          exact h2
        · have h2 : ¬ hi < (z.length : Int) := fun x => e2 (decide_eq_true x)
          refine ⟨.str z, rfl, z, rfl, fun D hD => ?_⟩
          refine lc_it walk_str (fun i H' => Same H H' ∧ H' D = some (.lst ((z.cps.toList.take i).map fun c => V.bl (decide (c ∈ sg.cps.toList))))) ⟨same_upd hD, upd_same⟩ (fun _ _ _ _ => trivial) ?_ ?_
          · rintro i x H1 H2 hi1 ⟨sm, eD⟩ ⟨rfl, c, hc, rfl⟩
            refine ⟨rfl, _, rfl, _, rfl, c, sg, rfl, rfl, _, eD, ?_, same_mut sm hD, ?_⟩
            · rw [List.length_map, List.length_take, len_tl]
              exact szlt (by omega)
            · rw [upd_same, take_map _ (at_l hc)]
          · rintro H1 ⟨sm, eD⟩
            refine ⟨D, z.cps.toList.map fun c => decide (c ∈ sg.cps.toList), rfl, SqL.of ?_, ?_⟩
            · rw [eD, List.map_map, List.take_of_length_le (show z.cps.toList.length ≤ z.cps.size from Nat.le_of_eq (len_tl z))]
              rfl
            · have h4 := q H1 sm
              have h3 : ans (ofB sg lo hi) (.str z) = (z.cps.toList.map fun c => decide (c ∈ sg.cps.toList)).all id := by
                show ((decide (lo ≤ (z.length : Int)) && decide ((z.length : Int) ≤ hi)) && inB sg z) = _
                rw [decide_eq_true (by omega), decide_eq_true (by omega), List.all_map]
                rfl
              rw [h3] at h4
              exact h4
    · refine ⟨v, rfl, v, .ty "str", _, _, false, rfl, .ty "str", ty, kit_ty nk, false, rfl, ?_⟩
      have h2 := q H (Same.refl H)
      rw [ef] at h2
      exact h2
def spIs (f : Str → Bool) : Sp := fun vs H Q _ => ∃ (v : V), vs = [v] ∧ Thing H v ∧ ∀ H', Same H H' → Q (.bl (ans f v)) H'
theorem ok_is_name (T : Txt K mg) : FnOk P w K mg base CX0 2 T.f_is_name T.fd_is_name ["text"] (spIs nameB) := by
  refine T.d_is_name.F.ok sc_is_name (fun vs H Q E h => ?_) (fun cdv A outer s H vs Q E hr h => ?_)
  · obtain ⟨v, rfl, _⟩ := h
    rfl
  · obtain ⟨v, rfl, th, q⟩ := h
    refine ⟨_, (pss_one (ps_ret (pe_call (ok_is_made_of T) (hr.mono (by decide)) (by rfl) T.d_is_made_of.g T.d_is_made_of.F.kp T.d_is_made_of.b .nil pass0 (pa_cons (pv 0) (pa_cons (pe_glob (v := .str "abcdefghijklmnopqrstuvwxyz") (by rfl) T.g_LETTERS ⟨_, rfl⟩) (pa_cons pe_int (pa_cons (pe_glob (v := .int 8) (by rfl) T.g_LONGEST_NAME ⟨_, rfl⟩) pa_nil))))))), ?_⟩
    exact ⟨v, rfl, v, _, _, _, rfl, th, q⟩
theorem ok_is_worth (T : Txt K mg) : FnOk P w K mg base CX0 2 T.f_is_worth T.fd_is_worth ["text"] (spIs worthB) := by
  refine T.d_is_worth.F.ok sc_is_worth (fun vs H Q E h => ?_) (fun cdv A outer s H vs Q E hr h => ?_)
  · obtain ⟨v, rfl, _⟩ := h
    rfl
  · obtain ⟨v, rfl, th, q⟩ := h
    refine ⟨_, (pss_one (ps_ret (pe_call (ok_is_made_of T) (hr.mono (by decide)) (by rfl) T.d_is_made_of.g T.d_is_made_of.F.kp T.d_is_made_of.b .nil pass0 (pa_cons (pv 0) (pa_cons (pe_glob (v := .str "abcdefghijklmnopqrstuvwxyz0123456789-") (by rfl) T.g_WORTH_SIGNS ⟨_, rfl⟩) (pa_cons pe_int (pa_cons (pe_glob (v := .int 12) (by rfl) T.g_LONGEST_WORTH ⟨_, rfl⟩) pa_nil))))))), ?_⟩
    exact ⟨v, rfl, v, _, _, _, rfl, th, q⟩
theorem head_at {z : Str} (h : 0 < z.length) : ∃ c, z.cps.toList.head? = some c ∧ atI z.cps.toList 0 = some c := by
  have hl := len_tl z
  cases e : z.cps.toList with
  | nil =>
    rw [e] at hl
    have : 0 = z.length := hl
    omega
  | cons c r => exact ⟨c, rfl, atI_nat (j := 0) rfl⟩
theorem nought_ne {z : Str} {c : Nat} (h : z.cps.toList.head? = some c) : nought z = (decide (V.str z = V.str "0") || !decide (V.str ⟨#[c]⟩ = V.str "0")) := by
  unfold nought
  rw [h]
  have e1 : decide (V.str z = V.str "0") = decide (z = "0") := by
    by_cases h : z = "0"
    · rw [decide_eq_true h, decide_eq_true (congrArg V.str h)]
    · rw [decide_eq_false h, decide_eq_false fun x => h (V.str.inj x)]
  have e2 : decide (V.str ⟨#[c]⟩ = V.str "0") = decide (some c = some 48) := by
    by_cases h : c = 48
    · subst h
      decide
    · rw [decide_eq_false fun x => h (Option.some.inj x), decide_eq_false fun x => h ?_]
      have y : (⟨#[c]⟩ : Str) = ⟨#[48]⟩ := (V.str.inj x).trans (by decide)
      have y2 : (#[c] : Array Nat) = #[48] := congrArg Str.cps y
      have y3 := congrArg (fun a : Array Nat => a.toList) y2
      exact (List.cons.inj y3).1
  rw [e1, e2]
theorem ofB_len {sg : Str} {lo hi : Int} {z : Str} (h : ofB sg lo hi z = true) : lo ≤ z.length := by
  unfold ofB at h
  simp only [Bool.and_eq_true, decide_eq_true_eq] at h
  exact h.1.1
theorem ok_is_figures (T : Txt K mg) : FnOk P w K mg base CX0 2 T.f_is_figures T.fd_is_figures ["text"] (spIs figB) := by
  refine T.d_is_figures.F.ok sc_is_figures (fun vs H Q E h => ?_) (fun cdv A outer s H vs Q E hr h => ?_)
  · obtain ⟨v, rfl, _⟩ := h
    rfl
  · obtain ⟨v, rfl, th, q⟩ := h
    refine ⟨_, (pss_cons (ps_if (pt_not (pt_val (pe_call (ok_is_made_of T) (hr.mono (by decide)) (by rfl) T.d_is_made_of.g T.d_is_made_of.F.kp T.d_is_made_of.b .nil pass0 (pa_cons (pv 0) (pa_cons (pe_glob (v := .str "0123456789") (by rfl) T.g_FIGURES ⟨_, rfl⟩) (pa_cons pe_int (pa_cons (pe_glob (v := .int 60) (by rfl) T.g_MOST_FIGURES ⟨_, rfl⟩) pa_nil)))))))
      (pss_one (ps_ret pe_bl))
      pss_nil)
      (pss_one (ps_ret (pe_or (pe_cmpR op_eq (pv 0) pe_str (nomark _)) (pe_one (pe_cmpR op_ne (pe_ix ix_str (pv 0) pe_int (fun _ _ => rfl)) pe_str (nomark _))))))), ?_⟩
    refine ⟨v, rfl, v, _, _, _, rfl, th, fun H1 sm => ⟨_, rfl, ?_⟩⟩
    show if (!ans (ofB "0123456789" 1 60) v) = true then _ else _
    refine ite2 (fun e => ?_) (fun e => ?_)
    · have e1 : ans (ofB "0123456789" 1 60) v = false := by simpa using e
      have h2 := q H1 sm
      have e2 : ans figB v = false := by
        cases v <;> first | rfl | skip
        show (ofB "0123456789" 1 60 _ && _) = false
        rw [show ofB "0123456789" 1 60 _ = false from e1]
        rfl
      rw [e2] at h2
      exact h2
    · have e1 : ans (ofB "0123456789" 1 60) v = true := by simpa using e
      rcases th.two (K := K) with ⟨z, rfl, hz⟩ | ⟨n, ty, nk, ef⟩
      · have l0 : 0 < z.length := by
          have := ofB_len (show ofB "0123456789" 1 60 z = true from e1)
          omega
        obtain ⟨c, hc, ec⟩ := head_at l0
        have h2 := q H1 sm
        have e3 : ans figB (.str z) = (decide (V.str z = V.str "0") || !decide (V.str ⟨#[c]⟩ = V.str "0")) := by
          show (ofB "0123456789" 1 60 z && nought z) = _
          rw [show ofB "0123456789" 1 60 z = true from e1, nought_ne hc]
          rfl
        rw [e3] at h2
        refine ⟨_, rfl, rfl, _, rfl, ite2 (fun e4 => ?_) (fun e4 => ?_)⟩
        · rw [e4, Bool.true_or] at h2
          exact h2
        · refine ⟨_, rfl, z, 0, c, rfl, rfl, szl (by omega), ec, rfl, ?_⟩
          have e5 : decide (V.str z = V.str "0") = false := by simpa using e4
          rw [e5, Bool.false_or] at h2
          exact h2
      · rw [ef] at e1
        cases e1
end
end My
namespace My
open PySem PySem.Spec PyProof.Rows L2 TL
theorem spl_small (S : List Nat) : ∀ (xs : List Nat) (k : Nat) (acc : List Nat), ∀ y ∈ spl S k acc xs, y.length ≤ acc.length + xs.length
  | [], k, acc, y, h => by
    rw [spl_nil] at h
    rw [List.mem_singleton.mp h]
    omega
  | c :: r, 0, acc, y, h => by
    unfold spl at h
    by_cases hp : pre S (c :: r) = true
    · rw [if_pos hp] at h
      rcases List.mem_cons.mp h with e | h
      · rw [e]
        omega
      · have := spl_small S r _ _ y h
        rw [List.length_cons]
        simp only [List.length_nil] at this
        omega
    · rw [if_neg hp] at h
      have := spl_small S r _ _ y h
      rw [List.length_append] at this
      rw [List.length_cons]
      simp only [List.length_cons, List.length_nil] at this
      omega
  | c :: r, k + 1, acc, y, h => by
    have := spl_small S r k acc y h
    rw [List.length_cons]
    omega
theorem split_len (z : Str) : (Txt.split z "/").length ≤ z.length + 2 := PyProof.Rows.split_le z "/"
theorem split_small {z : Str} {n : Nat} (hz : z.length ≤ n) : ∀ y ∈ Txt.split z "/", y.length ≤ n := by
  intro y hy
  have e := split_spl z "/" (by decide) (kind_ok (by decide +kernel))
  have h1 : tl y ∈ spl (tl "/") 0 [] (tl z) := by
    rw [← e]
    exact List.mem_map.mpr ⟨y, hy, rfl⟩
  have h2 := spl_small _ _ _ _ _ h1
  have e1 : (tl y).length = y.length := len_tl y
  have e2 : (tl z).length = z.length := len_tl z
  rw [e1, e2] at h2
  simp only [List.length_nil] at h2
  omega
theorem filter_take {α β : Type} {xs : List α} {i : Nat} {c : α} (p : α → Bool) (f : α → β) (h : xs[i]? = some c) : ((xs.take (i + 1)).filter p).map f = ((xs.take i).filter p).map f ++ (if p c = true then [f c] else []) := by
  rw [List.take_add_one, h, List.filter_append, List.map_append]
  by_cases hp : p c = true
  · rw [if_pos hp]
    simp [hp]
  · rw [if_neg hp]
    simp [hp]
theorem all_filter {α : Type} (p : α → Bool) (xs : List α) : ((xs.filter fun c => !p c)).isEmpty = xs.all p := by
  induction xs with
  | nil => rfl
  | cons a r ih =>
    cases h : p a with
    | true => simp only [List.filter_cons, h, List.all_cons, Bool.not_true, Bool.true_and]; exact ih
    | false => simp [List.filter_cons, h, List.all_cons]
theorem isEmpty_map {α β : Type} (f : α → β) (xs : List α) : (xs.map f).isEmpty = xs.isEmpty := by
  cases xs <;> rfl
theorem str_at {ss : List Str} {i : Nat} {x : V} (h : (ss.map V.str)[i]? = some x) : ∃ y, x = .str y ∧ ss[i]? = some y ∧ y ∈ ss := by
  rw [List.getElem?_map] at h
  cases e : ss[i]? with
  | none =>
    rw [e] at h
    cases h
  | some y =>
    rw [e] at h
    cases h
    exact ⟨y, rfl, rfl, List.mem_of_getElem? e⟩
section
variable {P : Program} {w : World} {K : PySem.W.Frag} {mg : Str → Option Value} {base : Heap}
theorem ok_is_path (T : Txt K mg) : FnOk P w K mg base CX0 3 T.f_is_path T.fd_is_path ["text"] (spIs pathB) := by
  refine T.d_is_path.F.ok sc_is_path (fun vs H Q E h => ?_) (fun cdv A outer s H vs Q E hr h => ?_)
  · obtain ⟨v, rfl, _⟩ := h
    rfl
  · obtain ⟨v, rfl, th, q⟩ := h
    refine ⟨_, (pss_cons (ps_if (pt_not (pt_val (pe_callB call_isi (by rfl) T.m_isinstance (by decide +kernel) (pa_cons (pv 0) (pa_cons (pe_bltn (v := .ty "str") (by rfl) T.m_str (by decide +kernel) rfl) pa_nil)))))
      (pss_one (ps_ret pe_bl))
      pss_nil)
      (pss_cons (ps_set (i := 1) sc_is_path.nd rfl (.inl rfl) (pe_split (pv 0) pe_str))
      (pss_one (ps_ret (pe_and (pe_cmpR op_le (pe_callB call_len_seq (by rfl) T.m_len (by decide +kernel) (pa_cons (pv 1) pa_nil)) (pe_glob (v := .int 4) (by rfl) T.g_MOST_NAMES ⟨_, rfl⟩) (nomark _)) (pe_one (pe_callB (cr_all rfl) (by rfl) T.m_all (by decide +kernel) (pa_cons (pe_lc (own := [("name", 2)]) (g := gName 2) (tt := tYes) (by rfl) sc_is_path.nd (pi_list (pv 1)) (blkOk_by (own := [("name", 2)]) (N := ["text", "names", "name"]) (sc := defScope s_is_path) (by decide +kernel)) (fun _ _ _ _ _ => (pg_name (i := 2) sc_is_path.nd rfl (Or.inl rfl))) (fun _ _ _ _ _ => pts_nil) (fun _ _ _ _ _ => (pe_call (ok_is_name T) (hr.mono (by decide)) (by rfl) T.d_is_name.g T.d_is_name.F.kp T.d_is_name.b .nil pass0 (pa_cons (pv 2) pa_nil)))) pa_nil)))))))), ?_⟩
    rcases th.two (K := K) with ⟨z, rfl, hz⟩ | ⟨n, ty, nk, ef⟩
    · refine ⟨.str z, rfl, .str z, .ty "str", _, _, true, rfl, .ty "str", .base (.str z), kit_str, true, rfl, ?_⟩
      refine ⟨.str z, rfl, ⟨z, rfl⟩, z, _, rfl, rfl, by decide, szl (by omega), fun p hp => ?_⟩
      have s1 : Same H (upd H p (.lst ((Txt.split z "/").map V.str))) := same_upd hp
      have hsl := split_len z
      refine ⟨.ref p, rfl, p, _, rfl, .inl (SqL.of upd_same), _, 4, rfl, rfl, _, rfl, ite2 (fun e => ?_) (fun e => ?_)⟩
      · refine ⟨.ref p, rfl, p, rfl, ⟨_, SqL.of upd_same⟩, fun D hD => ?_⟩
        refine lc_list (xs := (Txt.split z "/").map V.str) (fun i H' => Same (upd H p (.lst ((Txt.split z "/").map V.str))) H' ∧ H' D = some (.lst (((Txt.split z "/").take i).map fun y => V.bl (nameB y)))) ⟨same_upd hD, upd_same⟩ (fun i H' _ pv => SqL.of (pv.1 p _ upd_same)) ?_ ?_
        · rintro i x H1 hx ⟨sm, eD⟩
          obtain ⟨y, rfl, hy, my⟩ := str_at hx
          refine ⟨rfl, .str y, rfl, .str y, rfl, .str y (split_small hz y my), fun H2 sm2 => ?_⟩
          refine ⟨_, sm2 D _ eD, ?_, same_mut (sm.trans sm2) hD, ?_⟩
          · rw [List.length_map, List.length_take]
            exact szlt (by omega)
          · rw [upd_same, take_map _ hy]
            rfl
        · rintro H1 ⟨sm, eD⟩
          refine ⟨D, (Txt.split z "/").map nameB, rfl, SqL.of ?_, ?_⟩
          · rw [eD, List.map_map, List.take_of_length_le (by rw [List.length_map]; exact Nat.le_refl _)]
            rfl
          · have h4 := q H1 (s1.trans sm)
            have h3 : ans pathB (.str z) = ((Txt.split z "/").map nameB).all id := by
              show (decide (((Txt.split z "/").length : Int) ≤ 4) && (Txt.split z "/").all nameB) = _
              have e' : (((Txt.split z "/").map V.str).length : Int) ≤ 4 := of_decide_eq_true e
              rw [List.length_map] at e'
              rw [decide_eq_true e', List.all_map]
              rfl
            rw [h3] at h4
            exact h4
      · have h4 := q _ s1
        have h3 : ans pathB (.str z) = false := by
          show (decide (((Txt.split z "/").length : Int) ≤ 4) && (Txt.split z "/").all nameB) = _
          have e' : ¬ (((Txt.split z "/").map V.str).length : Int) ≤ 4 := fun x => e (decide_eq_true x)
          rw [List.length_map] at e'
          rw [decide_eq_false e']
          rfl
        rw [h3] at h4
        exact h4
    · refine ⟨v, rfl, v, .ty "str", _, _, false, rfl, .ty "str", ty, kit_ty nk, false, rfl, ?_⟩
      have h2 := q H (Same.refl H)
      rw [ef] at h2
      exact h2
theorem ok_is_mark (T : Txt K mg) : FnOk P w K mg base CX0 3 T.f_is_mark T.fd_is_mark ["text"] (spIs markB) := by
  refine T.d_is_mark.F.ok sc_is_mark (fun vs H Q E h => ?_) (fun cdv A outer s H vs Q E hr h => ?_)
  · obtain ⟨v, rfl, _⟩ := h
    rfl
  · obtain ⟨v, rfl, th, q⟩ := h
    refine ⟨_, (pss_cons (ps_if (pt_not (pt_val (pe_callB call_isi (by rfl) T.m_isinstance (by decide +kernel) (pa_cons (pv 0) (pa_cons (pe_bltn (v := .ty "str") (by rfl) T.m_str (by decide +kernel) rfl) pa_nil)))))
      (pss_one (ps_ret pe_bl))
      pss_nil)
      (pss_one (ps_ret (pe_and (pe_cmpR op_in_seq (pe_slice sl_str (pv 0) po_none (po_some pe_int)) (pe_tup (pa_cons pe_str (pa_cons pe_str pa_nil))) rfl) (pe_one (pe_call (ok_is_figures T) (hr.mono (by decide)) (by rfl) T.d_is_figures.g T.d_is_figures.F.kp T.d_is_figures.b .nil pass0 (pa_cons (pe_slice sl_str (pv 0) (po_some pe_int) po_none) pa_nil))))))), ?_⟩
    rcases th.two (K := K) with ⟨z, rfl, hz⟩ | ⟨n, ty, nk, ef⟩
    · refine ⟨.str z, rfl, .str z, .ty "str", _, _, true, rfl, .ty "str", .base (.str z), kit_str, true, rfl, ?_⟩
      refine ⟨.str z, rfl, 1, rfl, z, rfl, szl (by omega), (by show 2 ≤ sizeLine; decide), fun t ht => ⟨t, _, rfl, .inr (SqT.of upd_same), rfl, rfl, _, rfl, ?_⟩⟩
      show if inV (.str (cutS z none (some 1))) [.str "s", .str "w"] = true then _ else _
      refine ite2 (fun e => ?_) (fun e => ?_)
      · refine ⟨.str z, rfl, 1, rfl, z, rfl, szl (by omega), _, rfl, .str _ (Nat.le_trans (cutS_len z _ _) hz), fun H2 sm2 => ?_⟩
        have h4 := q H2 ((same_upd ht).trans sm2)
        have h3 : ans markB (.str z) = ans figB (.str (cutS z (some 1) none)) := by
          show (inV (.str (cutS z none (some 1))) [.str "s", .str "w"] && figB (cutS z (some 1) none)) = figB (cutS z (some 1) none)
          rw [e]
          rfl
        rw [h3] at h4
        exact h4
      · have h4 := q _ (same_upd (o := .tup [.str "s", .str "w"]) ht)
        have h3 : ans markB (.str z) = false := by
          show (inV (.str (cutS z none (some 1))) [.str "s", .str "w"] && figB (cutS z (some 1) none)) = false
          rw [show inV (.str (cutS z none (some 1))) [.str "s", .str "w"] = false by simpa using e]
          rfl
        rw [h3] at h4
        exact h4
    · refine ⟨v, rfl, v, .ty "str", _, _, false, rfl, .ty "str", ty, kit_ty nk, false, rfl, ?_⟩
      have h2 := q H (Same.refl H)
      rw [ef] at h2
      exact h2
/-! ### the law's own -/
def spOf : Sp := fun vs H Q _ => ∃ (z sg : Str) (lo hi : Int), vs = [.str z, .str sg, .int lo, .int hi] ∧ z.length ≤ 1000 ∧ ∀ H', Same H H' → Q (.bl (ofB sg lo hi z)) H'
theorem ok_law_of (T : Txt K mg) : FnOk P w K mg base CX0 1 T.f_law_of T.fd_law_of ["_law_text", "_law_signs_here", "_law_least", "_law_most"] spOf := by
  refine T.d_law_of.F.ok sc_law_of (fun vs H Q E h => ?_) (fun cdv A outer s H vs Q E hr h => ?_)
  · obtain ⟨z, sg, lo, hi, rfl, _⟩ := h
    rfl
  · obtain ⟨z, sg, lo, hi, rfl, hz, q⟩ := h
    refine ⟨_, (pss_one (ps_ret (pe_and (pe_chain op_le op_le (pv 2) (pe_callB call_len_str (by rfl) T.m_len (by decide +kernel) (pa_cons (pv 0) pa_nil)) (pv 3)) (pe_one (pe_cmpR (op_eqNil hr.units) (pe_lc (own := [("_law_sign", 4)]) (g := gName 4) (by rfl) sc_law_of.nd (pi_str (pv 0)) (blkOk_by (own := [("_law_sign", 4)]) (N := ["_law_text", "_law_signs_here", "_law_least", "_law_most", "_law_sign"]) (sc := defScope s_law_of) (by decide +kernel)) (fun _ _ _ _ _ => (pg_name (i := 4) sc_law_of.nd rfl (Or.inl rfl))) (fun _ _ _ _ _ => (pts_one (pt_cmpR op_notIn_sign (pv 4) (pv 1) rfl))) (fun _ _ _ _ _ => (pv 4))) (pe_lst pa_nil) (nomark _)))))), ?_⟩
    refine ⟨.int lo, rfl, .str z, rfl, z, rfl, szl (by omega), lo, _, rfl, rfl, _, rfl, ite2 (fun e => ?_) (fun e => ?_)⟩
    · have e1 : lo ≤ (z.length : Int) := of_decide_eq_true e
      refine ⟨.int hi, rfl, _, hi, rfl, rfl, _, rfl, ite2 (fun e2 => ?_) (fun e2 => ?_)⟩
      · have e3 : (z.length : Int) ≤ hi := of_decide_eq_true e2
        refine ⟨.str z, rfl, z, rfl, fun D hD => ?_⟩
        refine lc_it walk_str (fun i H' => Same H H' ∧ H' D = some (.lst (((z.cps.toList.take i).filter fun c => !decide (c ∈ sg.cps.toList)).map fun c => V.str ⟨#[c]⟩))) ⟨same_upd hD, upd_same⟩ (fun _ _ _ _ => trivial) ?_ ?_
        · rintro i x H1 H2 hi1 ⟨sm, eD⟩ ⟨rfl, c, hc, rfl⟩
          have hf := filter_take (fun c => !decide (c ∈ sg.cps.toList)) (fun c => V.str ⟨#[c]⟩) (at_l hc)
          refine ⟨rfl, _, rfl, _, rfl, c, sg, rfl, rfl, _, rfl, ?_⟩
          refine ite2 (fun e4 => ?_) (fun e4 => ?_)
          · rw [if_pos e4] at hf
            refine ⟨_, rfl, _, eD, ?_, same_mut sm hD, ?_⟩
            · rw [List.length_map]
              have h1 := List.length_filter_le (fun c => !decide (c ∈ sg.cps.toList)) (z.cps.toList.take i)
              rw [List.length_take, len_tl] at h1
              exact szlt (by omega)
            · rw [upd_same, hf]
          · rw [if_neg e4, List.append_nil] at hf
            exact ⟨sm, by rw [hf]; exact eD⟩
        · rintro H1 ⟨sm, eD⟩
          refine ⟨Nat.zero_le _, fun p hp => ?_⟩
          refine ⟨D, p, _, rfl, rfl, SqL.of ((same_upd hp) D _ eD), SqL.of upd_same, ?_⟩
          have h4 := q _ (sm.trans (same_upd (o := .lst []) hp))
          have h3 : ofB sg lo hi z = ((((z.cps.toList.take z.cps.size).filter fun c => !decide (c ∈ sg.cps.toList)).map fun c => V.str ⟨#[c]⟩)).isEmpty := by
            unfold ofB
            rw [decide_eq_true e1, decide_eq_true e3, isEmpty_map, all_filter, List.take_of_length_le (show z.cps.toList.length ≤ z.cps.size from Nat.le_of_eq (len_tl z))]
            rfl
          rw [h3] at h4
          exact h4
      · have h4 := q _ (Same.refl H)
        have e3 : ¬ (z.length : Int) ≤ hi := fun x => e2 (decide_eq_true x)
        have h3 : ofB sg lo hi z = false := by
          unfold ofB
          rw [decide_eq_false e3, Bool.and_false]
          rfl
        rw [h3] at h4
        exact h4
    · have h4 := q _ (Same.refl H)
      have e3 : ¬ lo ≤ (z.length : Int) := fun x => e (decide_eq_true x)
      have h3 : ofB sg lo hi z = false := by
        unfold ofB
        rw [decide_eq_false e3]
        rfl
      rw [h3] at h4
      exact ⟨false, rfl, h4⟩
def spStr (f : Str → Bool) : Sp := fun vs H Q _ => ∃ z : Str, vs = [.str z] ∧ z.length ≤ 1000 ∧ ∀ H', Same H H' → Q (.bl (f z)) H'
theorem ok_law_number (T : Txt K mg) : FnOk P w K mg base CX0 2 T.f_law_number T.fd_law_number ["_law_text"] (spStr figB) := by
  refine T.d_law_number.F.ok sc_law_number (fun vs H Q E h => ?_) (fun cdv A outer s H vs Q E hr h => ?_)
  · obtain ⟨z, rfl, _⟩ := h
    rfl
  · obtain ⟨z, rfl, hz, q⟩ := h
    refine ⟨_, (pss_one (ps_ret (pe_and (pe_call (ok_law_of T) (hr.mono (by decide)) (by rfl) T.d_law_of.g T.d_law_of.F.kp T.d_law_of.b .nil pass0 (pa_cons (pv 0) (pa_cons pe_str (pa_cons pe_int (pa_cons pe_int pa_nil))))) (pe_one (pe_or (pe_cmpR op_eq (pv 0) pe_str (nomark _)) (pe_one (pe_cmpR op_ne (pe_ix ix_str (pv 0) pe_int (fun _ _ => rfl)) pe_str (nomark _)))))))), ?_⟩
    refine ⟨.str z, rfl, z, _, _, _, rfl, hz, fun H1 sm => ⟨_, rfl, ?_⟩⟩
    have h2 := q H1 sm
    show if ofB "0123456789" 1 60 z = true then _ else _
    refine ite2 (fun e => ?_) (fun e => ?_)
    · have l0 : 0 < z.length := by
        have := ofB_len e
        omega
      obtain ⟨c, hc, ec⟩ := head_at l0
      have e3 : figB z = (decide (V.str z = V.str "0") || !decide (V.str ⟨#[c]⟩ = V.str "0")) := by
        show (ofB "0123456789" 1 60 z && nought z) = _
        rw [e, nought_ne hc]
        rfl
      rw [e3] at h2
      refine ⟨_, rfl, rfl, _, rfl, ite2 (fun e4 => ?_) (fun e4 => ?_)⟩
      · rw [e4, Bool.true_or] at h2
        exact h2
      · refine ⟨_, rfl, z, 0, c, rfl, rfl, szl (by omega), ec, rfl, ?_⟩
        have e5 : decide (V.str z = V.str "0") = false := by simpa using e4
        rw [e5, Bool.false_or] at h2
        exact h2
    · have e3 : figB z = false := by
        show (ofB "0123456789" 1 60 z && nought z) = _
        rw [show ofB "0123456789" 1 60 z = false by simpa using e]
        rfl
      rw [e3] at h2
      exact h2
end
end My
namespace My
open PySem PySem.Spec PyProof.Rows L2 TL
theorem cut_one (z : Str) : (z.length = 0 ∧ cutS z none (some 1) = ⟨#[]⟩) ∨ ∃ c, cutS z none (some 1) = ⟨#[c]⟩ := by
  have e : cutS z none (some 1) = ⟨(z.cps.toList.take (min 1 z.length)).toArray⟩ := by
    unfold cutS
    rw [HT.sIx_none, show HT.sIx z.length z.length (some 1) = min 1 z.length from HT.sIx_nat z.length z.length 1]
    rfl
  have hl := len_tl z
  cases h : z.cps.toList with
  | nil =>
    rw [h] at hl
    have h0 : z.length = 0 := hl.symm
    exact .inl ⟨h0, by rw [e, h, h0]; rfl⟩
  | cons c r =>
    rw [h, List.length_cons] at hl
    exact .inr ⟨c, by rw [e, h, show min 1 z.length = 1 by omega]; rfl⟩
theorem sw_in (c : Nat) : inV (.str ⟨#[c]⟩) [.str "s", .str "w"] = decide (c ∈ ("sw" : Str).cps.toList) := by
  have e1 : ("s" : Str) = ⟨#[115]⟩ := by decide
  have e2 : ("w" : Str) = ⟨#[119]⟩ := by decide
  have e3 : ("sw" : Str).cps.toList = [115, 119] := by decide
  rw [e1, e2, e3]
  show ((⟨#[115]⟩ : Str) == ⟨#[c]⟩ || ((⟨#[119]⟩ : Str) == ⟨#[c]⟩ || false)) = _
  by_cases h1 : c = 115
  · subst h1
    decide
  · by_cases h2 : c = 119
    · subst h2
      decide
    · have n1 : ((⟨#[115]⟩ : Str) == ⟨#[c]⟩) = false := by
        rw [beq_eq_false_iff_ne]
        intro x
        have y3 := congrArg (fun a : Str => a.cps.toList) x
        exact h1 (List.cons.inj y3).1.symm
      have n2 : ((⟨#[119]⟩ : Str) == ⟨#[c]⟩) = false := by
        rw [beq_eq_false_iff_ne]
        intro x
        have y3 := congrArg (fun a : Str => a.cps.toList) x
        exact h2 (List.cons.inj y3).1.symm
      rw [n1, n2]
      simp [h1, h2]
def five (z : V) : List Bool := [ans nameB z, ans worthB z, ans pathB z, ans figB z, ans markB z]
section
variable {P : Program} {w : World} {K : PySem.W.Frag} {mg : Str → Option Value} {base : Heap}
def spDue : Sp := fun vs H Q _ => ∃ v : V, vs = [v] ∧ Thing H v ∧ ∀ p H', Same H H' → H' p = some (.lst ((five v).map V.bl)) → Q (.ref p) H'
theorem ok_law_due (T : Txt K mg) : FnOk P w K mg base CX0 3 T.f_law_due T.fd_law_due ["_law_thing_here"] spDue := by
  refine T.d_law_due.F.ok sc_law_due (fun vs H Q E h => ?_) (fun cdv A outer s H vs Q E hr h => ?_)
  · obtain ⟨v, rfl, _⟩ := h
    rfl
  · obtain ⟨v, rfl, th, q⟩ := h
    refine ⟨_, (pss_cons (ps_if (pt_not (pt_val (pe_callB call_isi (by rfl) T.m_isinstance (by decide +kernel) (pa_cons (pv 0) (pa_cons (pe_bltn (v := .ty "str") (by rfl) T.m_str (by decide +kernel) rfl) pa_nil)))))
      (pss_one (ps_ret (pe_lst (pa_cons pe_bl (pa_cons pe_bl (pa_cons pe_bl (pa_cons pe_bl (pa_cons pe_bl pa_nil))))))))
      pss_nil)
      (pss_cons (ps_set (i := 1) sc_law_due.nd rfl (.inr rfl) pe_str)
      (pss_cons (ps_set (i := 2) sc_law_due.nd rfl (.inl rfl) (pe_split (pv 0) pe_str))
      (pss_cons (ps_setLc (i := 3) (own := [("_law_name_here", 7)]) (g := gName 7) (by rfl) sc_law_due.nd rfl rfl (sw_true rfl rfl rfl (by decide +kernel)) (pi_list (pv 2)) (blkOk_by (own := [("_law_name_here", 7)]) (N := ["_law_thing_here", "_law_letters", "_law_names", "_law_bad", "_law_path_here", "_law_found", "_law_mark", "_law_name_here"]) (sc := defScope s_law_due) (by decide +kernel)) (fun _ _ _ _ _ => (pg_name (i := 7) sc_law_due.nd rfl (Or.inl rfl))) (fun _ _ _ _ _ => (pts_one (pt_not (pt_val (pe_call (ok_law_of T) (hr.mono (by decide)) (by rfl) T.d_law_of.g T.d_law_of.F.kp T.d_law_of.b .nil pass0 (pa_cons (pv 7) (pa_cons (pv 1) (pa_cons pe_int (pa_cons pe_int pa_nil))))))))) (fun _ _ _ _ _ => (pv 7)))
      (Evl.pss_cut (ps_set (i := 4) sc_law_due.nd rfl (.inl rfl) (pe_and (pe_cmpR op_le (pe_callB call_len_seq (by rfl) T.m_len (by decide +kernel) (pa_cons (pv 2) pa_nil)) pe_int (nomark _)) (pe_one (pe_cmpR (op_eqNil hr.units) (pv 3) (pe_lst pa_nil) (nomark _)))))
      (pss_cons (ps_set (i := 5) sc_law_due.nd rfl (.inl rfl) (pe_lst (pa_cons (pe_call (ok_law_of T) (hr.mono (by decide)) (by rfl) T.d_law_of.g T.d_law_of.F.kp T.d_law_of.b .nil pass0 (pa_cons (pv 0) (pa_cons (pv 1) (pa_cons pe_int (pa_cons pe_int pa_nil))))) pa_nil)))
      (pss_cons (ps_set (i := 5) sc_law_due.nd rfl (.inl rfl) (pe_op op_cat (pv 5) (pe_lst (pa_cons (pe_call (ok_law_of T) (hr.mono (by decide)) (by rfl) T.d_law_of.g T.d_law_of.F.kp T.d_law_of.b .nil pass0 (pa_cons (pv 0) (pa_cons (pe_op op_add_str (pv 1) pe_str) (pa_cons pe_int (pa_cons pe_int pa_nil))))) (pa_cons (pv 4) pa_nil)))))
      (Evl.pss_cut (ps_set (i := 6) sc_law_due.nd rfl (.inl rfl) (pe_and (pe_cmpR op_ne (pe_slice sl_str (pv 0) po_none (po_some pe_int)) pe_str (nomark _)) (pe_and (pe_cmpR op_in_sign (pe_slice sl_str (pv 0) po_none (po_some pe_int)) pe_str rfl) (pe_one (pe_call (ok_law_number T) (hr.mono (by decide)) (by rfl) T.d_law_number.g T.d_law_number.F.kp T.d_law_number.b .nil pass0 (pa_cons (pe_slice sl_str (pv 0) (po_some pe_int) po_none) pa_nil))))))
      (pss_one (ps_ret (pe_op op_cat (pv 5) (pe_lst (pa_cons (pe_call (ok_law_number T) (hr.mono (by decide)) (by rfl) T.d_law_number.g T.d_law_number.F.kp T.d_law_number.b .nil pass0 (pa_cons (pv 0) pa_nil)) (pa_cons (pv 6) pa_nil)))))))))))))), ?_⟩
    rcases th.two (K := K) with ⟨z, rfl, hz⟩ | ⟨n, ty, nk, ef⟩
    · refine ⟨.str z, rfl, .str z, .ty "str", _, _, true, rfl, .ty "str", .base (.str z), kit_str, true, rfl, ?_⟩
      refine ⟨.str z, rfl, ⟨z, rfl⟩, z, _, rfl, rfl, by decide, szl (by omega), fun p hp => ?_⟩
      have s1 : Same H (upd H p (.lst ((Txt.split z "/").map V.str))) := same_upd hp
      have hsl := split_len z
      refine ⟨.ref p, rfl, p, rfl, ⟨_, SqL.of upd_same⟩, fun D hD => ?_⟩
      refine lc_list (xs := (Txt.split z "/").map V.str) (fun i H' => Same (upd H p (.lst ((Txt.split z "/").map V.str))) H' ∧ H' D = some (.lst ((((Txt.split z "/").take i).filter fun y => !nameB y).map V.str))) ⟨same_upd hD, upd_same⟩ (fun i H' _ pv => SqL.of (pv.1 p _ upd_same)) ?_ ?_
      · rintro i x H1 hx ⟨sm, eD⟩
        obtain ⟨y, rfl, hy, my⟩ := str_at hx
        have hf := filter_take (fun y => !nameB y) V.str hy
        refine ⟨rfl, .str y, rfl, _, rfl, y, _, _, _, rfl, split_small hz y my, fun H2 sm2 => ⟨_, rfl, ?_⟩⟩
        show if (!nameB y) = true then _ else _
        refine ite2 (fun e4 => ?_) (fun e4 => ?_)
        · rw [if_pos e4] at hf
          refine ⟨_, rfl, _, sm2 D _ eD, ?_, same_mut (sm.trans sm2) hD, ?_⟩
          · rw [List.length_map]
            have h1 := List.length_filter_le (fun y => !nameB y) ((Txt.split z "/").take i)
            rw [List.length_take] at h1
            exact szlt (by omega)
          · rw [upd_same, hf]
        · rw [if_neg e4, List.append_nil] at hf
          exact ⟨sm.trans sm2, by rw [hf]; exact sm2 D _ eD⟩
      · rintro H1 ⟨sm, eD⟩
        have hp1 := sm p _ upd_same
        have s2 : Same H H1 := s1.trans sm
        -- path_here
        refine ⟨fun σ' H' => Same H H' ∧ σ' = [some (.str z), some (.str "abcdefghijklmnopqrstuvwxyz"), some (.ref p), some (.ref D), some (.bl (pathB z)), none, none, none], ?_, ?_⟩
        · refine ⟨.ref p, rfl, p, _, rfl, .inl (SqL.of hp1), _, 4, rfl, rfl, _, rfl, ite2 (fun e => ?_) (fun e => ?_)⟩
          · refine ⟨.ref D, rfl, Nat.zero_le _, fun p2 hp2 => ?_⟩
            refine ⟨D, p2, _, rfl, rfl, SqL.of ((same_upd hp2) D _ eD), SqL.of upd_same, s2.trans (same_upd hp2), ?_⟩
            have h3 : pathB z = ((((Txt.split z "/").take ((Txt.split z "/").map V.str).length).filter fun y => !nameB y).map V.str).isEmpty := by
              unfold pathB
              have e' : (((Txt.split z "/").map V.str).length : Int) ≤ 4 := of_decide_eq_true e
              rw [List.length_map] at e'
              rw [decide_eq_true e', isEmpty_map, all_filter, List.take_of_length_le (by rw [List.length_map]; exact Nat.le_refl _)]
              rfl
            rw [h3]
            rfl
          · refine ⟨s2, ?_⟩
            have h3 : pathB z = false := by
              unfold pathB
              have e' : ¬ (((Txt.split z "/").map V.str).length : Int) ≤ 4 := fun x => e (decide_eq_true x)
              rw [List.length_map] at e'
              rw [decide_eq_false e']
              rfl
            rw [h3]
            rfl
        · rintro σ' H2 ⟨s3, rfl⟩
          refine ⟨.str z, rfl, _, rfl, z, _, _, _, rfl, hz, fun H3 s4 => ⟨(by show 1 ≤ sizeLine; decide), fun p3 hp3 => ?_⟩⟩
          refine ⟨.ref p3, rfl, .str z, rfl, _, rfl, _, _, rfl, rfl, by decide, z, _, _, _, rfl, hz, fun H4 s5 => ⟨_, rfl, (by show 2 ≤ sizeLine; decide), fun p4 hp4 => ?_⟩⟩
          refine ⟨p3, p4, _, _, rfl, rfl, (same_upd hp4) p3 _ (s5 p3 _ upd_same), upd_same, (by show 3 ≤ sizeLine; decide), fun p5 hp5 => ?_⟩
          have s6 : Same H3 (upd H3 p3 (.lst [.bl (nameB z)])) := same_upd hp3
          have s7 := same_upd (o := .lst [.bl (ofB ("abcdefghijklmnopqrstuvwxyz" ++ "0123456789-") 0 12 z), .bl (pathB z)]) hp4
          have s8 := same_upd (o := .lst [.bl (nameB z), .bl (ofB ("abcdefghijklmnopqrstuvwxyz" ++ "0123456789-") 0 12 z), .bl (pathB z)]) hp5
          have s9 := ((((s3.trans s4).trans s6).trans s5).trans s7).trans s8
          -- mark
          refine ⟨fun σ' H' => Same H H' ∧ H' p5 = some (.lst [.bl (nameB z), .bl (ofB ("abcdefghijklmnopqrstuvwxyz" ++ "0123456789-") 0 12 z), .bl (pathB z)]) ∧ σ' = [some (.str z), some (.str "abcdefghijklmnopqrstuvwxyz"), some (.ref p), some (.ref D), some (.bl (pathB z)), some (.ref p5), some (.bl (markB z)), none], ?_, ?_⟩
          · refine ⟨.str z, rfl, 1, rfl, z, rfl, szl (by omega), rfl, _, rfl, ?_⟩
            rcases cut_one z with ⟨l0, ec⟩ | ⟨c, ec⟩
            · have h3 : markB z = false := by
                unfold markB
                rw [ec]
                rfl
              rw [h3, ec]
              show if (!decide (V.str ⟨#[]⟩ = V.str "")) = true then _ else _
              rw [decide_eq_true (by decide)]
              exact ⟨s9, upd_same, rfl⟩
            · rw [ec]
              show if (!decide (V.str ⟨#[c]⟩ = V.str "")) = true then _ else _
              have nn : ¬ V.str ⟨#[c]⟩ = V.str "" := fun x => by
                have y3 := congrArg (fun a : Str => a.cps.toList.length) (V.str.inj x)
                have y4 : (1 : Nat) = 0 := y3.trans (by decide)
                cases y4
              rw [decide_eq_false nn]
              refine ⟨.str z, rfl, 1, rfl, z, rfl, szl (by omega), c, _, by rw [ec], rfl, _, rfl, ite2 (fun e => ?_) (fun e => ?_)⟩
              · refine ⟨.str z, rfl, 1, rfl, z, rfl, szl (by omega), _, rfl, Nat.le_trans (cutS_len z _ _) hz, fun H5 s10 => ?_⟩
                refine ⟨s9.trans s10, s10 _ _ upd_same, ?_⟩
                have h3 : markB z = figB (cutS z (some 1) none) := by
                  unfold markB
                  rw [ec, sw_in, e]
                  rfl
                rw [h3]
                rfl
              · refine ⟨s9, upd_same, ?_⟩
                have h3 : markB z = false := by
                  unfold markB
                  rw [ec, sw_in, show decide (c ∈ ("sw" : Str).cps.toList) = false by simpa using e]
                  rfl
                rw [h3]
                rfl
          · rintro σ' H5 ⟨s10, h5, rfl⟩
            refine ⟨.ref p5, rfl, .str z, rfl, z, rfl, hz, fun H6 s11 => ⟨_, rfl, (by show 2 ≤ sizeLine; decide), fun p6 hp6 => ?_⟩⟩
            refine ⟨p5, p6, _, _, rfl, rfl, (same_upd hp6) p5 _ (s11 p5 _ h5), upd_same, (by show 5 ≤ sizeLine; decide), fun p7 hp7 => ?_⟩
            refine q p7 _ (((s10.trans s11).trans (same_upd hp6)).trans (same_upd hp7)) ?_
            rw [upd_same]
            rfl
    · refine ⟨v, rfl, v, .ty "str", _, _, false, rfl, .ty "str", ty, kit_ty nk, false, rfl, ?_⟩
      refine ⟨(by show 5 ≤ sizeLine; decide), fun p hp => q p _ (same_upd hp) ?_⟩
      rw [upd_same]
      show _ = some (HO.lst ([ans nameB v, ans worthB v, ans pathB v, ans figB v, ans markB v].map V.bl))
      rw [ef, ef, ef, ef, ef]
      rfl
end
end My
namespace My
open PySem PySem.Spec PyProof.Rows L2 TL
theorem cutV_map {α : Type} (f : α → V) (ns : List α) (lo hi : Option Int) : ∃ ms : List α, cutV (ns.map f) lo hi = ms.map f ∧ ms.length ≤ ns.length := by
  refine ⟨(ns.drop (HT.sIx ns.length 0 lo)).take (HT.sIx ns.length ns.length hi - HT.sIx ns.length 0 lo), ?_, ?_⟩
  · unfold cutV
    rw [List.length_map, List.map_take, List.map_drop]
  · rw [List.length_take, List.length_drop]
    omega
theorem int_at {ns : List Int} {i : Nat} {x : V} (h : (ns.map V.int)[i]? = some x) : ∃ n, x = .int n := by
  rw [List.getElem?_map] at h
  cases e : ns[i]? with
  | none =>
    rw [e] at h
    cases h
  | some y =>
    rw [e] at h
    cases h
    exact ⟨y, rfl⟩
theorem dp_bools {K : PySem.W.Frag} {H : Hp} : ∀ bs : List Bool, DpAll K H (bs.map V.bl) (bs.map PyData.bool)
  | [] => .nil
  | b :: r => .cons (.bl b) (dp_bools r)
theorem lay_bools : ∀ bs : List Bool, PyData.canLayAll0 (bs.map PyData.bool) = true
  | [] => rfl
  | _ :: r => by simp [PyData.canLayAll0, PyData.canLay0, lay_bools r]
theorem depth_bools : ∀ bs : List Bool, PyData.depthAll (bs.map PyData.bool) = 0
  | [] => rfl
  | _ :: r => by simp [PyData.depthAll, PyData.depth, depth_bools r]
theorem shaped_bools (bs : List Bool) : SeqAt.shaped (.list (bs.map PyData.bool)) = true := by
  simp [SeqAt.shaped, PyData.canLay0, PyData.depth, lay_bools, depth_bools]
theorem eqv_bools (bs : List Bool) : PyData.eqv (.list (bs.map PyData.bool)) (.list (bs.map PyData.bool)) = true := SeqAt.eqv_refl _ (by simp [PyData.canLay0, lay_bools])
section
variable {P : Program} {w : World} {K : PySem.W.Frag} {mg : Str → Option Value} {base : Heap}
def spThing : Sp := fun vs H Q _ => ∃ W : Addr, vs = [.ref W] ∧ IsW H W ∧ ∀ v H', Wx W H H' → Thing H' v → Q v H'
theorem ok_law_thing (T : Txt K mg) : FnOk P w K mg base CX0 6 T.f_law_thing T.fd_law_thing ["_law_well_here"] spThing := by
  refine T.d_law_thing.F.ok sc_law_thing (fun vs H Q E h => ?_) (fun cdv A outer s H vs Q E hr h => ?_)
  · obtain ⟨W, rfl, _⟩ := h
    rfl
  · obtain ⟨W, rfl, hI, q⟩ := h
    refine ⟨_, (pss_cons (ps_set (i := 1) sc_law_thing.nd rfl (.inl rfl) (pe_call (ok_law_draw T) (hr.mono (by decide)) (by rfl) T.d_law_draw.g T.d_law_draw.F.kp T.d_law_draw.b .nil pass0 (pa_cons (pv 0) (pa_cons pe_int pa_nil))))
      (pss_cons (ps_set (i := 2) sc_law_thing.nd rfl (.inl rfl) (pe_call (ok_law_draw T) (hr.mono (by decide)) (by rfl) T.d_law_draw.g T.d_law_draw.F.kp T.d_law_draw.b .nil pass0 (pa_cons (pv 0) (pa_cons pe_int pa_nil))))
      (pss_cons (ps_set (i := 3) sc_law_thing.nd rfl (.inl rfl) (pe_call (ok_law_any_sign T) (hr.mono (by decide)) (by rfl) T.d_law_any_sign.g T.d_law_any_sign.F.kp T.d_law_any_sign.b .nil pass0 (pa_cons (pv 0) pa_nil)))
      (pss_cons (ps_if (pt_cmpR op_eq (pv 1) pe_int (nomark _))
      (pss_one (ps_ret (pe_ix ix_list (pe_lst (pa_cons pe_non (pa_cons pe_bl (pa_cons pe_int (pa_cons pe_int (pa_cons (pe_lst (pa_cons pe_str pa_nil)) (pa_cons (pe_tup (pa_cons pe_str pa_nil)) (pa_cons pe_dnewK (pa_cons (pe_lst (pa_cons pe_str (pa_cons pe_str pa_nil))) (pa_cons (pe_un un_neg pe_int) (pa_cons (pe_tup pa_nil) pa_nil))))))))))) (pe_op op_mod (pv 2) pe_int) (fun _ _ => rfl))))
      pss_nil)
      (pss_cons (ps_set (i := 4) sc_law_thing.nd rfl (.inl rfl) (pe_call (ok_law_good T) (hr.mono (by decide)) (by rfl) T.d_law_good.g T.d_law_good.F.kp T.d_law_good.b .nil pass0 (pa_cons (pv 0) pa_nil)))
      (pss_cons (ps_set (i := 2) sc_law_thing.nd rfl (.inl rfl) (pe_op op_mod (pv 2) (pe_op op_add (pe_callB call_len_str (by rfl) T.m_len (by decide +kernel) (pa_cons (pv 4) pa_nil)) pe_int)))
      (pss_cons (ps_if (pt_cmpR op_eq (pv 1) pe_int (nomark _))
      (pss_one (ps_ret (pe_op op_add_str (pe_op op_add_str (pe_slice sl_str (pv 4) po_none (po_some (pv 2))) (pv 3)) (pe_slice sl_str (pv 4) (po_some (pv 2)) po_none))))
      pss_nil)
      (pss_cons (ps_if (pt_cmpR op_eq (pv 1) pe_int (nomark _))
      (pss_one (ps_ret (pe_op op_add_str (pe_slice sl_str (pv 4) po_none (po_some (pv 2))) (pe_slice sl_str (pv 4) (po_some (pe_op op_add (pv 2) pe_int)) po_none))))
      pss_nil)
      (pss_cons (ps_if (pt_cmpR op_eq (pv 1) pe_int (nomark _))
      (pss_one (ps_ret (pe_op op_add_str (pe_op op_add_str (pe_slice sl_str (pv 4) po_none (po_some (pv 2))) (pv 3)) (pe_slice sl_str (pv 4) (po_some (pe_op op_add (pv 2) pe_int)) po_none))))
      pss_nil)
      (pss_cons (ps_if (pt_cmpR op_eq (pv 1) pe_int (nomark _))
      (pss_one (ps_ret (pe_op op_add_str (pe_op op_add_str (pe_slice sl_str (pv 4) po_none (po_some (pv 2))) (pe_upper (pe_slice sl_str (pv 4) (po_some (pv 2)) (po_some (pe_op op_add (pv 2) pe_int))))) (pe_slice sl_str (pv 4) (po_some (pe_op op_add (pv 2) pe_int)) po_none))))
      pss_nil)
      (pss_cons (ps_if (pt_cmpR op_eq (pv 1) pe_int (nomark _))
      (pss_one (ps_ret (pe_op op_add_str (pe_op op_add_str (pe_slice sl_str (pv 4) po_none (po_some (pv 2))) pe_str) (pe_slice sl_str (pv 4) (po_some (pv 2)) po_none))))
      pss_nil)
      (pss_one (ps_ret (pv 4)))))))))))))), ?_⟩
    refine ⟨.ref W, rfl, W, 9, rfl, by decide, by decide, hI, fun r H1 r0 r1 x1 => ?_⟩
    refine ⟨.ref W, rfl, W, 64, rfl, by decide, by decide, x1.well, fun a H2 a0 a1 x2 => ?_⟩
    refine ⟨.ref W, rfl, W, rfl, x2.well, fun sg H3 sl x3 => ?_⟩
    have x03 := (x1.trans x2).trans x3
    refine ⟨.int r, rfl, rfl, _, rfl, ite2 (fun e => ?_) (fun e => ?_)⟩
    · refine ⟨(by show 1 ≤ sizeLine; decide), fun p1 h1 => ⟨(by show 1 ≤ sizeLine; decide), fun p2 h2 => fun p3 h3 => ⟨(by show 2 ≤ sizeLine; decide), fun p4 h4 => ⟨1, rfl, Nat.zero_le _, fun p5 h5 => ⟨(by show 10 ≤ sizeLine; decide), fun p hp => ?_⟩⟩⟩⟩⟩
      have y1 := x03.new (o := .lst [.str "a"]) h1
      have y2 := y1.new (o := .tup [.str "s0"]) h2
      have y3 := y2.new (o := .dK []) h3
      have y4 := y3.new (o := .lst [.str "s", .str "0"]) h4
      have y5 := y4.new (o := .tup []) h5
      have y6 := y5.new (o := .lst [.non, .bl true, .int 0, .int 7, .ref p1, .ref p2, .ref p3, .ref p4, .int (-1), .ref p5]) hp
      have n1 := (x03.well.ne h1).symm
      have n2 := (y1.well.ne h2).symm
      have n3 := (y2.well.ne h3).symm
      have n4 := (y3.well.ne h4).symm
      have n5 := (y4.well.ne h5).symm
      have z1 : Wx W _ _ := ((((((Wx.refl y1.well).new (o := .tup [.str "s0"]) h2).new (o := .dK []) h3).new (o := .lst [.str "s", .str "0"]) h4).new (o := .tup []) h5).new (o := .lst [.non, .bl true, .int 0, .int 7, .ref p1, .ref p2, .ref p3, .ref p4, .int (-1), .ref p5]) hp)
      have z2 : Wx W _ _ := (((((Wx.refl y2.well).new (o := .dK []) h3).new (o := .lst [.str "s", .str "0"]) h4).new (o := .tup []) h5).new (o := .lst [.non, .bl true, .int 0, .int 7, .ref p1, .ref p2, .ref p3, .ref p4, .int (-1), .ref p5]) hp)
      have z3 : Wx W _ _ := ((((Wx.refl y3.well).new (o := .lst [.str "s", .str "0"]) h4).new (o := .tup []) h5).new (o := .lst [.non, .bl true, .int 0, .int 7, .ref p1, .ref p2, .ref p3, .ref p4, .int (-1), .ref p5]) hp)
      have z4 : Wx W _ _ := (((Wx.refl y4.well).new (o := .tup []) h5).new (o := .lst [.non, .bl true, .int 0, .int 7, .ref p1, .ref p2, .ref p3, .ref p4, .int (-1), .ref p5]) hp)
      have z5 : Wx W _ _ := ((Wx.refl y5.well).new (o := .lst [.non, .bl true, .int 0, .int 7, .ref p1, .ref p2, .ref p3, .ref p4, .int (-1), .ref p5]) hp)
      have m10 := mod_lt (n := a) (show (0 : Int) < 10 by decide)
      obtain ⟨v, hv, ev⟩ := atI_in (xs := [V.non, .bl true, .int 0, .int 7, .ref p1, .ref p2, .ref p3, .ref p4, .int (-1), .ref p5]) m10.1 m10.2
      refine ⟨.int a, rfl, a, 10, rfl, rfl, (show (0 : Int) < 10 by decide), p, _, _, v, rfl, rfl, SqL.of upd_same, ev, q v _ y6 ?_⟩
      simp only [List.mem_cons, List.not_mem_nil, or_false] at hv
      rcases hv with rfl | rfl | rfl | rfl | rfl | rfl | rfl | rfl | rfl | rfl
      · exact .non
      · exact .bl _
      · exact .int _
      · exact .int _
      · exact .lst (z1.keep _ _ n1 upd_same)
      · exact .tup (z2.keep _ _ n2 upd_same)
      · exact .dK (z3.keep _ _ n3 upd_same)
      · exact .lst (z4.keep _ _ n4 upd_same)
      · exact .int _
      · exact .tup (z5.keep _ _ n5 upd_same)
    refine ⟨.ref W, rfl, W, rfl, x3.well, fun z H4 hz x4 => ?_⟩
    have x04 := x03.trans x4
    have mz := mod_lt (n := a) (show (0 : Int) < (z.length : Int) + 1 by omega)
    refine ⟨.int a, rfl, .str z, rfl, z, rfl, szl (by omega), _, 1, rfl, rfl, a, _, rfl, rfl, (show (0 : Int) < (z.length : Int) + 1 by omega), ?_⟩
    have c1 := fun lo hi => cutS_len z lo hi
    refine ⟨.int r, rfl, rfl, _, rfl, ite2 (fun e => ?_) (fun e => ?_)⟩
    · have k1 := c1 none (some (a % ((z.length : Int) + 1)))
      have k2 := c1 (some (a % ((z.length : Int) + 1))) none
      refine ⟨.str z, rfl, _, rfl, _, rfl, z, rfl, szl (by omega), _, rfl, _, _, rfl, rfl, szl (by omega), .str z, rfl, _, rfl, _, rfl, z, rfl, szl (by omega), _, _, rfl, rfl, by rw [len_app]; exact szl (by omega), q _ _ x04 (.str _ ?_)⟩
      rw [len_app, len_app]
      omega
    refine ⟨.int r, rfl, rfl, _, rfl, ite2 (fun e => ?_) (fun e => ?_)⟩
    · have k1 := c1 none (some (a % ((z.length : Int) + 1)))
      have k2 := c1 (some (a % ((z.length : Int) + 1) + 1)) none
      refine ⟨.str z, rfl, _, rfl, _, rfl, z, rfl, szl (by omega), .str z, rfl, _, rfl, _, 1, rfl, rfl, _, rfl, z, rfl, szl (by omega), _, _, rfl, rfl, szl (by omega), q _ _ x04 (.str _ ?_)⟩
      rw [len_app]
      omega
    refine ⟨.int r, rfl, rfl, _, rfl, ite2 (fun e => ?_) (fun e => ?_)⟩
    · have k1 := c1 none (some (a % ((z.length : Int) + 1)))
      have k2 := c1 (some (a % ((z.length : Int) + 1) + 1)) none
      refine ⟨.str z, rfl, _, rfl, _, rfl, z, rfl, szl (by omega), _, rfl, _, _, rfl, rfl, szl (by omega), .str z, rfl, _, rfl, _, 1, rfl, rfl, _, rfl, z, rfl, szl (by omega), _, _, rfl, rfl, by rw [len_app]; exact szl (by omega), q _ _ x04 (.str _ ?_)⟩
      rw [len_app, len_app]
      omega
    refine ⟨.int r, rfl, rfl, _, rfl, ite2 (fun e => ?_) (fun e => ?_)⟩
    · have k1 := c1 none (some (a % ((z.length : Int) + 1)))
      have k2 := c1 (some (a % ((z.length : Int) + 1) + 1)) none
      have k3 := c1 (some (a % ((z.length : Int) + 1))) (some (a % ((z.length : Int) + 1) + 1))
      have k4 := PyProof.Rows.len_upper (cutS z (some (a % ((z.length : Int) + 1))) (some (a % ((z.length : Int) + 1) + 1)))
      refine ⟨.str z, rfl, _, rfl, _, rfl, z, rfl, szl (by omega), .str z, rfl, _, rfl, _, rfl, _, rfl, _, 1, rfl, rfl, _, rfl, z, rfl, szl (by omega), ⟨_, rfl⟩, _, rfl, rfl, by omega, _, _, rfl, rfl, szl (by omega), .str z, rfl, _, rfl, _, 1, rfl, rfl, _, rfl, z, rfl, szl (by omega), _, _, rfl, rfl, by rw [len_app]; exact szl (by omega), q _ _ x04 (.str _ ?_)⟩
      rw [len_app, len_app]
      omega
    refine ⟨.int r, rfl, rfl, _, rfl, ite2 (fun e => ?_) (fun e => ?_)⟩
    · have k1 := c1 none (some (a % ((z.length : Int) + 1)))
      have k2 := c1 (some (a % ((z.length : Int) + 1))) none
      have k3 : ("0" : Str).length = 1 := by decide
      refine ⟨.str z, rfl, _, rfl, _, rfl, z, rfl, szl (by omega), _, _, rfl, rfl, szl (by omega), .str z, rfl, _, rfl, _, rfl, z, rfl, szl (by omega), _, _, rfl, rfl, by rw [len_app]; exact szl (by omega), q _ _ x04 (.str _ ?_)⟩
      rw [len_app, len_app]
      omega
    exact ⟨.str z, rfl, q _ _ x04 (.str z (by omega))⟩
def spLaw (K : PySem.W.Frag) : Sp := fun vs H Q _ => ∃ (a : Addr) (ns : List Int), vs = [.ref a] ∧ SqL K H a (ns.map V.int) ∧ ns.length ≤ 63 ∧ ∀ H', Q (.bl true) H'
theorem ok_law (T : Txt K mg) : FnOk P w K mg base CX0 7 T.f_law T.fd_law ["_law_script"] (spLaw K) := by
  refine T.d_law.F.ok sc_law (fun vs H Q E h => ?_) (fun cdv A outer s H vs Q E hr h => ?_)
  · obtain ⟨a, ns, rfl, _⟩ := h
    rfl
  · obtain ⟨a, ns, rfl, hS, hlen, q⟩ := h
    refine ⟨_, (pss_cons (ps_for PassesOwn.never rfl (pi_list (pe_op op_cat (pe_slice sl_list (pv 0) po_none (po_some pe_int)) (pe_lst (pa_cons pe_int (pa_cons pe_int (pa_cons pe_int (pa_cons pe_int pa_nil))))))) (pg_name (i := 1) sc_law.nd rfl (.inl rfl))
      (pss_cons (ps_set (i := 2) sc_law.nd rfl (.inl rfl) (pe_call (ok_law_thing T) (hr.mono (by decide)) (by rfl) T.d_law_thing.g T.d_law_thing.F.kp T.d_law_thing.b .nil pass0 (pa_cons (pe_call (ok_law_well T) (hr.mono (by decide)) (by rfl) T.d_law_well.g T.d_law_well.F.kp T.d_law_well.b .nil pass0 (pa_cons (pv 1) pa_nil)) pa_nil)))
      (pss_cons (ps_set (i := 3) sc_law.nd rfl (.inl rfl) (pe_lst (pa_cons (pe_call (ok_is_name T) (hr.mono (by decide)) (by rfl) T.d_is_name.g T.d_is_name.F.kp T.d_is_name.b .nil pass0 (pa_cons (pv 2) pa_nil)) (pa_cons (pe_call (ok_is_worth T) (hr.mono (by decide)) (by rfl) T.d_is_worth.g T.d_is_worth.F.kp T.d_is_worth.b .nil pass0 (pa_cons (pv 2) pa_nil)) (pa_cons (pe_call (ok_is_path T) (hr.mono (by decide)) (by rfl) T.d_is_path.g T.d_is_path.F.kp T.d_is_path.b .nil pass0 (pa_cons (pv 2) pa_nil)) pa_nil)))))
      (pss_cons (ps_set (i := 3) sc_law.nd rfl (.inl rfl) (pe_op op_cat (pv 3) (pe_lst (pa_cons (pe_call (ok_is_figures T) (hr.mono (by decide)) (by rfl) T.d_is_figures.g T.d_is_figures.F.kp T.d_is_figures.b .nil pass0 (pa_cons (pv 2) pa_nil)) (pa_cons (pe_call (ok_is_mark T) (hr.mono (by decide)) (by rfl) T.d_is_mark.g T.d_is_mark.F.kp T.d_is_mark.b .nil pass0 (pa_cons (pv 2) pa_nil)) pa_nil)))))
      (pss_cons (ps_if (pt_cmpR (op_neD hr.units) (pe_lc (own := [("_law_one", 4)]) (g := gName 4) (by rfl) sc_law.nd (pi_list (pv 3)) (blkOk_by (own := [("_law_one", 4)]) (N := ["_law_script", "_law_cell", "_law_thing_here", "_law_found", "_law_one"]) (sc := defScope s_law) (by decide +kernel)) (fun _ _ _ _ _ => (pg_name (i := 4) sc_law.nd rfl (Or.inl rfl))) (fun _ _ _ _ _ => (pts_one (PW.pt (pw_and (pt_cmpR op_notBl (pv 4) pe_bl (nomark _)) (pw_and1 (pt_cmpR op_notBl (pv 4) pe_bl (nomark _))))))) (fun _ _ _ _ _ => (pv 4))) (pe_lst pa_nil) (nomark _))
      (pss_one (ps_ret pe_bl))
      pss_nil)
      (pss_one (ps_if (pt_cmpR (op_neD hr.units) (pv 3) (pe_call (ok_law_due T) (hr.mono (by decide)) (by rfl) T.d_law_due.g T.d_law_due.F.kp T.d_law_due.b .nil pass0 (pa_cons (pv 2) pa_nil)) (nomark _))
      (pss_one (ps_ret pe_bl))
      pss_nil)))))))
      (pss_one (ps_ret pe_bl))), ?_⟩
    obtain ⟨ms, em, lm⟩ := cutV_map V.int ns none (some 48)
    refine ⟨.ref a, rfl, 48, rfl, a, _, rfl, hS, fun p1 h1 => ⟨(by show 4 ≤ sizeLine; decide), fun p2 h2 => ?_⟩⟩
    refine ⟨p1, p2, _, _, rfl, rfl, (same_upd h2) _ _ upd_same, upd_same, by rw [em, List.length_map]; exact szl (by show ms.length + 4 ≤ _; omega), fun p3 h3 => ?_⟩
    have ec : cutV (ns.map V.int) none (some 48) ++ [.int 0, .int 5, .int 14, .int 23] = (ms ++ [0, 5, 14, 23]).map V.int := by
      rw [em, List.map_append]
      rfl
    rw [ec]
    refine ⟨p3, rfl, ⟨_, SqL.of upd_same⟩, for_list (K := K) (a := p3) (xs := (ms ++ [0, 5, 14, 23]).map V.int) (fun i σ H' => H' p3 = some (.lst ((ms ++ [0, 5, 14, 23]).map V.int)) ∧ ∃ y1 y2 y3, σ = [some (.ref a), y1, y2, y3, none])
      ⟨upd_same, none, none, none, rfl⟩ (fun i σ H' _ pv => SqL.of pv.1) ?_ ?_⟩
    · rintro i x σ H1 hx ⟨e3, y1, y2, y3, rfl⟩
      obtain ⟨n, rfl⟩ := int_at hx
      refine ⟨.int n, rfl, n, rfl, fun W wa wb wc hW => ?_⟩
      refine ⟨W, rfl, ⟨wa, wb, wc, upd_same⟩, fun v H2 x2 th => ?_⟩
      have e31 : H2 p3 = some (.lst ((ms ++ [0, 5, 14, 23]).map V.int)) := x2.keep p3 _ (ne_of_none e3 hW) ((same_upd hW) _ _ e3)
      refine ⟨v, rfl, v, rfl, th, fun H3 s3 => ⟨v, rfl, v, rfl, th.mono s3, fun H4 s4 => ⟨v, rfl, v, rfl, th.mono (s3.trans s4), fun H5 s5 => ⟨(by show 3 ≤ sizeLine; decide), fun p5 h5 => ?_⟩⟩⟩⟩
      have t5 := ((s3.trans s4).trans s5).trans (same_upd (o := .lst [.bl (ans nameB v), .bl (ans worthB v), .bl (ans pathB v)]) h5)
      refine ⟨.ref p5, rfl, v, rfl, v, rfl, th.mono t5, fun H6 s6 => ⟨v, rfl, v, rfl, th.mono (t5.trans s6), fun H7 s7 => ⟨(by show 2 ≤ sizeLine; decide), fun p6 h6 => ?_⟩⟩⟩
      have s67 := s6.trans s7
      refine ⟨p5, p6, _, _, rfl, rfl, (same_upd h6) _ _ (s67 _ _ upd_same), upd_same, (by show 5 ≤ sizeLine; decide), fun p7 h7 => ?_⟩
      have t7 := ((t5.trans s67).trans (same_upd (o := .lst [.bl (ans figB v), .bl (ans markB v)]) h6)).trans (same_upd (o := .lst ((five v).map V.bl)) h7)
      have e7 : (upd (upd H7 p6 (.lst [.bl (ans figB v), .bl (ans markB v)])) p7 (.lst ((five v).map V.bl))) p7 = some (.lst ((five v).map V.bl)) := upd_same
      refine ⟨.ref p7, rfl, p7, rfl, ⟨_, SqL.of e7⟩, fun D hD => ?_⟩
      refine lc_list (K := K) (a := p7) (xs := (five v).map V.bl) (fun i H' => Same (upd (upd H7 p6 (.lst [.bl (ans figB v), .bl (ans markB v)])) p7 (.lst ((five v).map V.bl))) H' ∧ H' D = some (.lst [])) ⟨same_upd hD, upd_same⟩ (fun i H' _ pv => SqL.of (pv.1 p7 _ e7)) ?_ ?_
      · rintro j x H8 hx8 ⟨s8, e8⟩
        obtain ⟨b, rfl⟩ : ∃ b, x = V.bl b := by
          rw [List.getElem?_map] at hx8
          cases e : (five v)[j]? with
          | none =>
            rw [e] at hx8
            cases hx8
          | some y =>
            rw [e] at hx8
            cases hx8
            exact ⟨y, rfl⟩
        refine ⟨rfl, .bl b, rfl, b, true, rfl, rfl, _, rfl, ?_⟩
        cases b with
        | true => exact ⟨s8, e8⟩
        | false => exact ⟨.bl false, rfl, false, false, rfl, rfl, _, rfl, s8, e8⟩
      · rintro H8 ⟨s8, e8⟩
        refine ⟨Nat.zero_le _, fun p9 h9 => ?_⟩
        refine ⟨.list [], .list [], .lst (SqL.of ((same_upd h9) _ _ e8)) .nil, .lst (SqL.of upd_same) .nil, by decide, by decide, false, by decide, ?_⟩
        have s9 := same_upd (o := .lst []) h9
        have t9 := (t7.trans s8).trans s9
        refine ⟨.ref p7, rfl, v, rfl, v, rfl, th.mono t9, fun p10 H10 s10 h10 => ?_⟩
        refine ⟨.list ((five v).map PyData.bool), .list ((five v).map PyData.bool), .lst (SqL.of (s10 _ _ (s9 _ _ (s8 _ _ e7)))) (dp_bools _), .lst (SqL.of h10) (dp_bools _), shaped_bools _, shaped_bools _, false, by rw [eqv_bools]; rfl, ?_⟩
        exact ⟨s10 _ _ (t9 _ _ e31), _, _, _, rfl⟩
    · rintro σ H1 ⟨e3, y1, y2, y3, rfl⟩
      exact q _
end
theorem all_mk {l : PySem.W.OpenLaw} {w : World} {K : PySem.W.Frag} {h : Heap} {mg : Str → Option Value} {fa : Addr} (X : K.In h) (G : h.Ns mainGlobals mg) (hfa : mg "law" = some (.ref fa))
    {f0 : Addr} {od0 an0 : Option Addr} {sl0 : Array (Option Value)} {oc0 kV0 dc0 pm0 cd0 ct0 : Value}
    (a0 : PySem.W.nsIn K mainGlobals "is_made_of" = some (some (.ref f0))) (l0 : K.lookup f0 = some ⟨oc0, od0, .func (PySem.W.fnOf "is_made_of" "is_made_of" (defArgs s_is_made_of) (defBody s_is_made_of) (defScope s_is_made_of) .none kV0 dc0 pm0 an0 cd0 ct0), sl0⟩) (c0 : PySem.W.codeIn K cd0 "is_made_of" = true) (k0 : PySem.W.keepIn K (.ref f0) = true)
    {f1 : Addr} {od1 an1 : Option Addr} {sl1 : Array (Option Value)} {oc1 kV1 dc1 pm1 cd1 ct1 : Value}
    (a1 : PySem.W.nsIn K mainGlobals "is_name" = some (some (.ref f1))) (l1 : K.lookup f1 = some ⟨oc1, od1, .func (PySem.W.fnOf "is_name" "is_name" (defArgs s_is_name) (defBody s_is_name) (defScope s_is_name) .none kV1 dc1 pm1 an1 cd1 ct1), sl1⟩) (c1 : PySem.W.codeIn K cd1 "is_name" = true) (k1 : PySem.W.keepIn K (.ref f1) = true)
    {f2 : Addr} {od2 an2 : Option Addr} {sl2 : Array (Option Value)} {oc2 kV2 dc2 pm2 cd2 ct2 : Value}
    (a2 : PySem.W.nsIn K mainGlobals "is_worth" = some (some (.ref f2))) (l2 : K.lookup f2 = some ⟨oc2, od2, .func (PySem.W.fnOf "is_worth" "is_worth" (defArgs s_is_worth) (defBody s_is_worth) (defScope s_is_worth) .none kV2 dc2 pm2 an2 cd2 ct2), sl2⟩) (c2 : PySem.W.codeIn K cd2 "is_worth" = true) (k2 : PySem.W.keepIn K (.ref f2) = true)
    {f3 : Addr} {od3 an3 : Option Addr} {sl3 : Array (Option Value)} {oc3 kV3 dc3 pm3 cd3 ct3 : Value}
    (a3 : PySem.W.nsIn K mainGlobals "is_path" = some (some (.ref f3))) (l3 : K.lookup f3 = some ⟨oc3, od3, .func (PySem.W.fnOf "is_path" "is_path" (defArgs s_is_path) (defBody s_is_path) (defScope s_is_path) .none kV3 dc3 pm3 an3 cd3 ct3), sl3⟩) (c3 : PySem.W.codeIn K cd3 "is_path" = true) (k3 : PySem.W.keepIn K (.ref f3) = true)
    {f4 : Addr} {od4 an4 : Option Addr} {sl4 : Array (Option Value)} {oc4 kV4 dc4 pm4 cd4 ct4 : Value}
    (a4 : PySem.W.nsIn K mainGlobals "is_figures" = some (some (.ref f4))) (l4 : K.lookup f4 = some ⟨oc4, od4, .func (PySem.W.fnOf "is_figures" "is_figures" (defArgs s_is_figures) (defBody s_is_figures) (defScope s_is_figures) .none kV4 dc4 pm4 an4 cd4 ct4), sl4⟩) (c4 : PySem.W.codeIn K cd4 "is_figures" = true) (k4 : PySem.W.keepIn K (.ref f4) = true)
    {f5 : Addr} {od5 an5 : Option Addr} {sl5 : Array (Option Value)} {oc5 kV5 dc5 pm5 cd5 ct5 : Value}
    (a5 : PySem.W.nsIn K mainGlobals "is_mark" = some (some (.ref f5))) (l5 : K.lookup f5 = some ⟨oc5, od5, .func (PySem.W.fnOf "is_mark" "is_mark" (defArgs s_is_mark) (defBody s_is_mark) (defScope s_is_mark) .none kV5 dc5 pm5 an5 cd5 ct5), sl5⟩) (c5 : PySem.W.codeIn K cd5 "is_mark" = true) (k5 : PySem.W.keepIn K (.ref f5) = true)
    {f6 : Addr} {od6 an6 : Option Addr} {sl6 : Array (Option Value)} {oc6 kV6 dc6 pm6 cd6 ct6 : Value}
    (a6 : PySem.W.nsIn K mainGlobals "_law_well" = some (some (.ref f6))) (l6 : K.lookup f6 = some ⟨oc6, od6, .func (PySem.W.fnOf "_law_well" "_law_well" (defArgs s_law_well) (defBody s_law_well) (defScope s_law_well) .none kV6 dc6 pm6 an6 cd6 ct6), sl6⟩) (c6 : PySem.W.codeIn K cd6 "_law_well" = true) (k6 : PySem.W.keepIn K (.ref f6) = true)
    {f7 : Addr} {od7 an7 : Option Addr} {sl7 : Array (Option Value)} {oc7 kV7 dc7 pm7 cd7 ct7 : Value}
    (a7 : PySem.W.nsIn K mainGlobals "_law_draw" = some (some (.ref f7))) (l7 : K.lookup f7 = some ⟨oc7, od7, .func (PySem.W.fnOf "_law_draw" "_law_draw" (defArgs s_law_draw) (defBody s_law_draw) (defScope s_law_draw) .none kV7 dc7 pm7 an7 cd7 ct7), sl7⟩) (c7 : PySem.W.codeIn K cd7 "_law_draw" = true) (k7 : PySem.W.keepIn K (.ref f7) = true)
    {f8 : Addr} {od8 an8 : Option Addr} {sl8 : Array (Option Value)} {oc8 kV8 dc8 pm8 cd8 ct8 : Value}
    (a8 : PySem.W.nsIn K mainGlobals "_law_signs" = some (some (.ref f8))) (l8 : K.lookup f8 = some ⟨oc8, od8, .func (PySem.W.fnOf "_law_signs" "_law_signs" (defArgs s_law_signs) (defBody s_law_signs) (defScope s_law_signs) .none kV8 dc8 pm8 an8 cd8 ct8), sl8⟩) (c8 : PySem.W.codeIn K cd8 "_law_signs" = true) (k8 : PySem.W.keepIn K (.ref f8) = true)
    {f9 : Addr} {od9 an9 : Option Addr} {sl9 : Array (Option Value)} {oc9 kV9 dc9 pm9 cd9 ct9 : Value}
    (a9 : PySem.W.nsIn K mainGlobals "_law_name" = some (some (.ref f9))) (l9 : K.lookup f9 = some ⟨oc9, od9, .func (PySem.W.fnOf "_law_name" "_law_name" (defArgs s_law_name) (defBody s_law_name) (defScope s_law_name) .none kV9 dc9 pm9 an9 cd9 ct9), sl9⟩) (c9 : PySem.W.codeIn K cd9 "_law_name" = true) (k9 : PySem.W.keepIn K (.ref f9) = true)
    {f10 : Addr} {od10 an10 : Option Addr} {sl10 : Array (Option Value)} {oc10 kV10 dc10 pm10 cd10 ct10 : Value}
    (a10 : PySem.W.nsIn K mainGlobals "_law_figures" = some (some (.ref f10))) (l10 : K.lookup f10 = some ⟨oc10, od10, .func (PySem.W.fnOf "_law_figures" "_law_figures" (defArgs s_law_figures) (defBody s_law_figures) (defScope s_law_figures) .none kV10 dc10 pm10 an10 cd10 ct10), sl10⟩) (c10 : PySem.W.codeIn K cd10 "_law_figures" = true) (k10 : PySem.W.keepIn K (.ref f10) = true)
    {f11 : Addr} {od11 an11 : Option Addr} {sl11 : Array (Option Value)} {oc11 kV11 dc11 pm11 cd11 ct11 : Value}
    (a11 : PySem.W.nsIn K mainGlobals "_law_path" = some (some (.ref f11))) (l11 : K.lookup f11 = some ⟨oc11, od11, .func (PySem.W.fnOf "_law_path" "_law_path" (defArgs s_law_path) (defBody s_law_path) (defScope s_law_path) .none kV11 dc11 pm11 an11 cd11 ct11), sl11⟩) (c11 : PySem.W.codeIn K cd11 "_law_path" = true) (k11 : PySem.W.keepIn K (.ref f11) = true)
    {f12 : Addr} {od12 an12 : Option Addr} {sl12 : Array (Option Value)} {oc12 kV12 dc12 pm12 cd12 ct12 : Value}
    (a12 : PySem.W.nsIn K mainGlobals "_law_good" = some (some (.ref f12))) (l12 : K.lookup f12 = some ⟨oc12, od12, .func (PySem.W.fnOf "_law_good" "_law_good" (defArgs s_law_good) (defBody s_law_good) (defScope s_law_good) .none kV12 dc12 pm12 an12 cd12 ct12), sl12⟩) (c12 : PySem.W.codeIn K cd12 "_law_good" = true) (k12 : PySem.W.keepIn K (.ref f12) = true)
    {f13 : Addr} {od13 an13 : Option Addr} {sl13 : Array (Option Value)} {oc13 kV13 dc13 pm13 cd13 ct13 : Value}
    (a13 : PySem.W.nsIn K mainGlobals "_law_any_sign" = some (some (.ref f13))) (l13 : K.lookup f13 = some ⟨oc13, od13, .func (PySem.W.fnOf "_law_any_sign" "_law_any_sign" (defArgs s_law_any_sign) (defBody s_law_any_sign) (defScope s_law_any_sign) .none kV13 dc13 pm13 an13 cd13 ct13), sl13⟩) (c13 : PySem.W.codeIn K cd13 "_law_any_sign" = true) (k13 : PySem.W.keepIn K (.ref f13) = true)
    {f14 : Addr} {od14 an14 : Option Addr} {sl14 : Array (Option Value)} {oc14 kV14 dc14 pm14 cd14 ct14 : Value}
    (a14 : PySem.W.nsIn K mainGlobals "_law_thing" = some (some (.ref f14))) (l14 : K.lookup f14 = some ⟨oc14, od14, .func (PySem.W.fnOf "_law_thing" "_law_thing" (defArgs s_law_thing) (defBody s_law_thing) (defScope s_law_thing) .none kV14 dc14 pm14 an14 cd14 ct14), sl14⟩) (c14 : PySem.W.codeIn K cd14 "_law_thing" = true) (k14 : PySem.W.keepIn K (.ref f14) = true)
    {f15 : Addr} {od15 an15 : Option Addr} {sl15 : Array (Option Value)} {oc15 kV15 dc15 pm15 cd15 ct15 : Value}
    (a15 : PySem.W.nsIn K mainGlobals "_law_of" = some (some (.ref f15))) (l15 : K.lookup f15 = some ⟨oc15, od15, .func (PySem.W.fnOf "_law_of" "_law_of" (defArgs s_law_of) (defBody s_law_of) (defScope s_law_of) .none kV15 dc15 pm15 an15 cd15 ct15), sl15⟩) (c15 : PySem.W.codeIn K cd15 "_law_of" = true) (k15 : PySem.W.keepIn K (.ref f15) = true)
    {f16 : Addr} {od16 an16 : Option Addr} {sl16 : Array (Option Value)} {oc16 kV16 dc16 pm16 cd16 ct16 : Value}
    (a16 : PySem.W.nsIn K mainGlobals "_law_number" = some (some (.ref f16))) (l16 : K.lookup f16 = some ⟨oc16, od16, .func (PySem.W.fnOf "_law_number" "_law_number" (defArgs s_law_number) (defBody s_law_number) (defScope s_law_number) .none kV16 dc16 pm16 an16 cd16 ct16), sl16⟩) (c16 : PySem.W.codeIn K cd16 "_law_number" = true) (k16 : PySem.W.keepIn K (.ref f16) = true)
    {f17 : Addr} {od17 an17 : Option Addr} {sl17 : Array (Option Value)} {oc17 kV17 dc17 pm17 cd17 ct17 : Value}
    (a17 : PySem.W.nsIn K mainGlobals "_law_due" = some (some (.ref f17))) (l17 : K.lookup f17 = some ⟨oc17, od17, .func (PySem.W.fnOf "_law_due" "_law_due" (defArgs s_law_due) (defBody s_law_due) (defScope s_law_due) .none kV17 dc17 pm17 an17 cd17 ct17), sl17⟩) (c17 : PySem.W.codeIn K cd17 "_law_due" = true) (k17 : PySem.W.keepIn K (.ref f17) = true)
    {f18 : Addr} {od18 an18 : Option Addr} {sl18 : Array (Option Value)} {oc18 kV18 dc18 pm18 cd18 ct18 : Value}
    (a18 : PySem.W.nsIn K mainGlobals "law" = some (some (.ref f18))) (l18 : K.lookup f18 = some ⟨oc18, od18, .func (PySem.W.fnOf "law" "law" (defArgs s_law) (defBody s_law) (defScope s_law) .none kV18 dc18 pm18 an18 cd18 ct18), sl18⟩) (c18 : PySem.W.codeIn K cd18 "law" = true) (k18 : PySem.W.keepIn K (.ref f18) = true)
    {t_LETTERS : Tok} (x_LETTERS : PySem.W.nsIn K mainGlobals "LETTERS" = some (some (.str "abcdefghijklmnopqrstuvwxyz" t_LETTERS)))
    {t_FIGURES : Tok} (x_FIGURES : PySem.W.nsIn K mainGlobals "FIGURES" = some (some (.str "0123456789" t_FIGURES)))
    {t_WORTH_SIGNS : Tok} (x_WORTH_SIGNS : PySem.W.nsIn K mainGlobals "WORTH_SIGNS" = some (some (.str "abcdefghijklmnopqrstuvwxyz0123456789-" t_WORTH_SIGNS)))
    {t_LONGEST_NAME : Tok} (x_LONGEST_NAME : PySem.W.nsIn K mainGlobals "LONGEST_NAME" = some (some (.int 8 t_LONGEST_NAME)))
    {t_LONGEST_WORTH : Tok} (x_LONGEST_WORTH : PySem.W.nsIn K mainGlobals "LONGEST_WORTH" = some (some (.int 12 t_LONGEST_WORTH)))
    {t_MOST_NAMES : Tok} (x_MOST_NAMES : PySem.W.nsIn K mainGlobals "MOST_NAMES" = some (some (.int 4 t_MOST_NAMES)))
    {t_MOST_FIGURES : Tok} (x_MOST_FIGURES : PySem.W.nsIn K mainGlobals "MOST_FIGURES" = some (some (.int 60 t_MOST_FIGURES)))
    (z_all : PySem.W.nsIn K mainGlobals "all" = some none)
    (z_int : PySem.W.nsIn K mainGlobals "int" = some none)
    (z_isinstance : PySem.W.nsIn K mainGlobals "isinstance" = some none)
    (z_len : PySem.W.nsIn K mainGlobals "len" = some none)
    (z_max : PySem.W.nsIn K mainGlobals "max" = some none)
    (z_range : PySem.W.nsIn K mainGlobals "range" = some none)
    (z_str : PySem.W.nsIn K mainGlobals "str" = some none)
    : ∃ fd : FuncData, (∀ (s : Shared) (v : Value), BindsTo s fd ⟨[v], []⟩ [("_law_script", v)]) ∧ ∀ base : Heap, K.In base → base.Ns mainGlobals mg → FnOk l.prog w K mg base CX0 7 fa fd ["_law_script"] (spLaw K) := by
  have e := hfa.symm.trans (PySem.W.mg_of X G a18)
  cases e
  have F0 := fun_mk (st := s_is_made_of) l0 c0 k0
  have F1 := fun_mk (st := s_is_name) l1 c1 k1
  have F2 := fun_mk (st := s_is_worth) l2 c2 k2
  have F3 := fun_mk (st := s_is_path) l3 c3 k3
  have F4 := fun_mk (st := s_is_figures) l4 c4 k4
  have F5 := fun_mk (st := s_is_mark) l5 c5 k5
  have F6 := fun_mk (st := s_law_well) l6 c6 k6
  have F7 := fun_mk (st := s_law_draw) l7 c7 k7
  have F8 := fun_mk (st := s_law_signs) l8 c8 k8
  have F9 := fun_mk (st := s_law_name) l9 c9 k9
  have F10 := fun_mk (st := s_law_figures) l10 c10 k10
  have F11 := fun_mk (st := s_law_path) l11 c11 k11
  have F12 := fun_mk (st := s_law_good) l12 c12 k12
  have F13 := fun_mk (st := s_law_any_sign) l13 c13 k13
  have F14 := fun_mk (st := s_law_thing) l14 c14 k14
  have F15 := fun_mk (st := s_law_of) l15 c15 k15
  have F16 := fun_mk (st := s_law_number) l16 c16 k16
  have F17 := fun_mk (st := s_law_due) l17 c17 k17
  have F18 := fun_mk (st := s_law) l18 c18 k18
  let T : Txt K mg := {
    f_is_made_of := f0, fd_is_made_of := _, d_is_made_of := ⟨F0, F0.binds (ps := ["text", "signs", "least", "most"]) (fun _ _ _ _ _ _ us hl => match us, hl with | [_, _, _, _], _ => rfl), PySem.W.mg_of X G a0⟩,
    f_is_name := f1, fd_is_name := _, d_is_name := ⟨F1, F1.binds (ps := ["text"]) (fun _ _ _ _ _ _ us hl => match us, hl with | [_], _ => rfl), PySem.W.mg_of X G a1⟩,
    f_is_worth := f2, fd_is_worth := _, d_is_worth := ⟨F2, F2.binds (ps := ["text"]) (fun _ _ _ _ _ _ us hl => match us, hl with | [_], _ => rfl), PySem.W.mg_of X G a2⟩,
    f_is_path := f3, fd_is_path := _, d_is_path := ⟨F3, F3.binds (ps := ["text"]) (fun _ _ _ _ _ _ us hl => match us, hl with | [_], _ => rfl), PySem.W.mg_of X G a3⟩,
    f_is_figures := f4, fd_is_figures := _, d_is_figures := ⟨F4, F4.binds (ps := ["text"]) (fun _ _ _ _ _ _ us hl => match us, hl with | [_], _ => rfl), PySem.W.mg_of X G a4⟩,
    f_is_mark := f5, fd_is_mark := _, d_is_mark := ⟨F5, F5.binds (ps := ["text"]) (fun _ _ _ _ _ _ us hl => match us, hl with | [_], _ => rfl), PySem.W.mg_of X G a5⟩,
    f_law_well := f6, fd_law_well := _, d_law_well := ⟨F6, F6.binds (ps := ["_law_cell"]) (fun _ _ _ _ _ _ us hl => match us, hl with | [_], _ => rfl), PySem.W.mg_of X G a6⟩,
    f_law_draw := f7, fd_law_draw := _, d_law_draw := ⟨F7, F7.binds (ps := ["_law_well_here", "_law_many"]) (fun _ _ _ _ _ _ us hl => match us, hl with | [_, _], _ => rfl), PySem.W.mg_of X G a7⟩,
    f_law_signs := f8, fd_law_signs := _, d_law_signs := ⟨F8, F8.binds (ps := ["_law_well_here", "_law_some", "_law_many"]) (fun _ _ _ _ _ _ us hl => match us, hl with | [_, _, _], _ => rfl), PySem.W.mg_of X G a8⟩,
    f_law_name := f9, fd_law_name := _, d_law_name := ⟨F9, F9.binds (ps := ["_law_well_here"]) (fun _ _ _ _ _ _ us hl => match us, hl with | [_], _ => rfl), PySem.W.mg_of X G a9⟩,
    f_law_figures := f10, fd_law_figures := _, d_law_figures := ⟨F10, F10.binds (ps := ["_law_well_here"]) (fun _ _ _ _ _ _ us hl => match us, hl with | [_], _ => rfl), PySem.W.mg_of X G a10⟩,
    f_law_path := f11, fd_law_path := _, d_law_path := ⟨F11, F11.binds (ps := ["_law_well_here"]) (fun _ _ _ _ _ _ us hl => match us, hl with | [_], _ => rfl), PySem.W.mg_of X G a11⟩,
    f_law_good := f12, fd_law_good := _, d_law_good := ⟨F12, F12.binds (ps := ["_law_well_here"]) (fun _ _ _ _ _ _ us hl => match us, hl with | [_], _ => rfl), PySem.W.mg_of X G a12⟩,
    f_law_any_sign := f13, fd_law_any_sign := _, d_law_any_sign := ⟨F13, F13.binds (ps := ["_law_well_here"]) (fun _ _ _ _ _ _ us hl => match us, hl with | [_], _ => rfl), PySem.W.mg_of X G a13⟩,
    f_law_thing := f14, fd_law_thing := _, d_law_thing := ⟨F14, F14.binds (ps := ["_law_well_here"]) (fun _ _ _ _ _ _ us hl => match us, hl with | [_], _ => rfl), PySem.W.mg_of X G a14⟩,
    f_law_of := f15, fd_law_of := _, d_law_of := ⟨F15, F15.binds (ps := ["_law_text", "_law_signs_here", "_law_least", "_law_most"]) (fun _ _ _ _ _ _ us hl => match us, hl with | [_, _, _, _], _ => rfl), PySem.W.mg_of X G a15⟩,
    f_law_number := f16, fd_law_number := _, d_law_number := ⟨F16, F16.binds (ps := ["_law_text"]) (fun _ _ _ _ _ _ us hl => match us, hl with | [_], _ => rfl), PySem.W.mg_of X G a16⟩,
    f_law_due := f17, fd_law_due := _, d_law_due := ⟨F17, F17.binds (ps := ["_law_thing_here"]) (fun _ _ _ _ _ _ us hl => match us, hl with | [_], _ => rfl), PySem.W.mg_of X G a17⟩,
    f_law := fa, fd_law := _, d_law := ⟨F18, F18.binds (ps := ["_law_script"]) (fun _ _ _ _ _ _ us hl => match us, hl with | [_], _ => rfl), PySem.W.mg_of X G a18⟩,
    t_LETTERS := _, g_LETTERS := PySem.W.mg_of X G x_LETTERS,
    t_FIGURES := _, g_FIGURES := PySem.W.mg_of X G x_FIGURES,
    t_WORTH_SIGNS := _, g_WORTH_SIGNS := PySem.W.mg_of X G x_WORTH_SIGNS,
    t_LONGEST_NAME := _, g_LONGEST_NAME := PySem.W.mg_of X G x_LONGEST_NAME,
    t_LONGEST_WORTH := _, g_LONGEST_WORTH := PySem.W.mg_of X G x_LONGEST_WORTH,
    t_MOST_NAMES := _, g_MOST_NAMES := PySem.W.mg_of X G x_MOST_NAMES,
    t_MOST_FIGURES := _, g_MOST_FIGURES := PySem.W.mg_of X G x_MOST_FIGURES,
    m_all := PySem.W.mg_none_of X G z_all,
    m_int := PySem.W.mg_none_of X G z_int,
    m_isinstance := PySem.W.mg_none_of X G z_isinstance,
    m_len := PySem.W.mg_none_of X G z_len,
    m_max := PySem.W.mg_none_of X G z_max,
    m_range := PySem.W.mg_none_of X G z_range,
    m_str := PySem.W.mg_none_of X G z_str
  }
  exact ⟨T.fd_law, fun s v => .of_eq rfl, fun base _ _ => ok_law T⟩
end My
open PySem PySem.W PyProof.Rows
set_option maxHeartbeats 0 in
theorem PySem.Challenge.cw_pagelodge_k01_words_told_apart_holds : PySem.Challenge.rw_pagelodge_k01_words_told_apart.Holds := by
  w_on; o_law; k_head; (case hw => w_witness2)
  k_fill
  refine L2.walk_of (l := PySem.Challenge.rw_pagelodge_k01_words_told_apart) (n := 63) (k := 7) (x := "_law_script") (CX := fun _ => L2.CX0) (sp := fun w => My.spLaw _) rfl (by decide) rfl ⟨rfl, by decide, by decide⟩ (fun w h Y => PySem.W.kIn_of Y) ?F (fun _ _ a ns hl _ hS => ⟨a, ns, rfl, hS, hl, fun _ => rfl⟩) (fun _ _ _ _ _ h => h)
  case F =>
    intro w mg fa h KX G hmg
    refine' My.all_mk KX G hmg ?a0 ?l0 ?c0 ?k0 ?a1 ?l1 ?c1 ?k1 ?a2 ?l2 ?c2 ?k2 ?a3 ?l3 ?c3 ?k3 ?a4 ?l4 ?c4 ?k4 ?a5 ?l5 ?c5 ?k5 ?a6 ?l6 ?c6 ?k6 ?a7 ?l7 ?c7 ?k7 ?a8 ?l8 ?c8 ?k8 ?a9 ?l9 ?c9 ?k9 ?a10 ?l10 ?c10 ?k10 ?a11 ?l11 ?c11 ?k11 ?a12 ?l12 ?c12 ?k12 ?a13 ?l13 ?c13 ?k13 ?a14 ?l14 ?c14 ?k14 ?a15 ?l15 ?c15 ?k15 ?a16 ?l16 ?c16 ?k16 ?a17 ?l17 ?c17 ?k17 ?a18 ?l18 ?c18 ?k18 ?x_LETTERS ?x_FIGURES ?x_WORTH_SIGNS ?x_LONGEST_NAME ?x_LONGEST_WORTH ?x_MOST_NAMES ?x_MOST_FIGURES ?z_all ?z_int ?z_isinstance ?z_len ?z_max ?z_range ?z_str
    (case a0 => k_is)
    (case l0 => k_is)
    (case c0 => k_is)
    (case k0 => k_is)
    (case a1 => k_is)
    (case l1 => k_is)
    (case c1 => k_is)
    (case k1 => k_is)
    (case a2 => k_is)
    (case l2 => k_is)
    (case c2 => k_is)
    (case k2 => k_is)
    (case a3 => k_is)
    (case l3 => k_is)
    (case c3 => k_is)
    (case k3 => k_is)
    (case a4 => k_is)
    (case l4 => k_is)
    (case c4 => k_is)
    (case k4 => k_is)
    (case a5 => k_is)
    (case l5 => k_is)
    (case c5 => k_is)
    (case k5 => k_is)
    (case a6 => k_is)
    (case l6 => k_is)
    (case c6 => k_is)
    (case k6 => k_is)
    (case a7 => k_is)
    (case l7 => k_is)
    (case c7 => k_is)
    (case k7 => k_is)
    (case a8 => k_is)
    (case l8 => k_is)
    (case c8 => k_is)
    (case k8 => k_is)
    (case a9 => k_is)
    (case l9 => k_is)
    (case c9 => k_is)
    (case k9 => k_is)
    (case a10 => k_is)
    (case l10 => k_is)
    (case c10 => k_is)
    (case k10 => k_is)
    (case a11 => k_is)
    (case l11 => k_is)
    (case c11 => k_is)
    (case k11 => k_is)
    (case a12 => k_is)
    (case l12 => k_is)
    (case c12 => k_is)
    (case k12 => k_is)
    (case a13 => k_is)
    (case l13 => k_is)
    (case c13 => k_is)
    (case k13 => k_is)
    (case a14 => k_is)
    (case l14 => k_is)
    (case c14 => k_is)
    (case k14 => k_is)
    (case a15 => k_is)
    (case l15 => k_is)
    (case c15 => k_is)
    (case k15 => k_is)
    (case a16 => k_is)
    (case l16 => k_is)
    (case c16 => k_is)
    (case k16 => k_is)
    (case a17 => k_is)
    (case l17 => k_is)
    (case c17 => k_is)
    (case k17 => k_is)
    (case a18 => k_is)
    (case l18 => k_is)
    (case c18 => k_is)
    (case k18 => k_is)
    (case x_LETTERS => k_is)
    (case x_FIGURES => k_is)
    (case x_WORTH_SIGNS => k_is)
    (case x_LONGEST_NAME => k_is)
    (case x_LONGEST_WORTH => k_is)
    (case x_MOST_NAMES => k_is)
    (case x_MOST_FIGURES => k_is)
    (case z_all => k_is)
    (case z_int => k_is)
    (case z_isinstance => k_is)
    (case z_len => k_is)
    (case z_max => k_is)
    (case z_range => k_is)
    (case z_str => k_is)
