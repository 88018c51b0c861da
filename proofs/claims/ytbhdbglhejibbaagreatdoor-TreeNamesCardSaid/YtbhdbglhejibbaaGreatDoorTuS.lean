/- Sources with a name in them that is open: their words, what is read of them, how they are printed. No condition. -/
import Derived.Test.YtbhdbglhejibbaaGreatDoorTuaP
import Derived.Test.YtbhdbglhejibbaaGreatDoorTuR
namespace Go.Proofs.YtbhdbglhejibbaaGreatDoor
set_option maxRecDepth 100000
open Go.RowKit
set_option linter.unusedVariables false
def nmS (i : Nat) (q : ByteArray) : ByteArray := match i with
  | 0 => ⟨#[40, 115, 101, 99, 114, 101, 116, 32]⟩ ++ q ++ ⟨#[32, 49, 41]⟩
  | 1 => ⟨#[40, 102, 117, 110, 32]⟩ ++ q ++ ⟨#[32, 40, 41, 32, 40, 114, 101, 116, 32, 48, 41, 41]⟩
  | 2 => ⟨#[40, 102, 117, 110, 32, 102, 32, 40]⟩ ++ q ++ ⟨#[41, 32, 40, 114, 101, 116, 32, 48, 41, 41]⟩
  | 3 => ⟨#[40, 102, 117, 110, 32, 102, 32, 40, 41, 32, 40, 115, 101, 116, 32]⟩ ++ q ++ ⟨#[32, 49, 41, 32, 40, 114, 101, 116, 32, 48, 41, 41]⟩
  | 4 => ⟨#[40, 102, 117, 110, 32, 102, 32, 40, 41, 32, 40, 102, 111, 114, 32]⟩ ++ q ++ ⟨#[32, 50, 41, 32, 40, 114, 101, 116, 32, 48, 41, 41]⟩
  | 5 => ⟨#[40, 102, 117, 110, 32, 102, 32, 40, 41, 32, 40, 114, 101, 116, 32, 40, 103, 101, 116, 32]⟩ ++ q ++ ⟨#[32, 48, 41, 41, 41]⟩
  | _ => ⟨#[40, 102, 117, 110, 32, 102, 32, 40, 41, 32, 40, 114, 101, 116, 32, 40, 99, 97, 108, 108, 32]⟩ ++ q ++ ⟨#[41, 41, 41]⟩
def nmT (i : Nat) (q : ByteArray) : List TokD := match i with
  | 0 => [.l [.w ⟨#[115, 101, 99, 114, 101, 116]⟩, .w q, .w ⟨#[49]⟩]]
  | 1 => [.l [.w ⟨#[102, 117, 110]⟩, .w q, .l [], .l [.w ⟨#[114, 101, 116]⟩, .w ⟨#[48]⟩]]]
  | 2 => [.l [.w ⟨#[102, 117, 110]⟩, .w ⟨#[102]⟩, .l [.w q], .l [.w ⟨#[114, 101, 116]⟩, .w ⟨#[48]⟩]]]
  | 3 => [.l [.w ⟨#[102, 117, 110]⟩, .w ⟨#[102]⟩, .l [], .l [.w ⟨#[115, 101, 116]⟩, .w q, .w ⟨#[49]⟩], .l [.w ⟨#[114, 101, 116]⟩, .w ⟨#[48]⟩]]]
  | 4 => [.l [.w ⟨#[102, 117, 110]⟩, .w ⟨#[102]⟩, .l [], .l [.w ⟨#[102, 111, 114]⟩, .w q, .w ⟨#[50]⟩], .l [.w ⟨#[114, 101, 116]⟩, .w ⟨#[48]⟩]]]
  | 5 => [.l [.w ⟨#[102, 117, 110]⟩, .w ⟨#[102]⟩, .l [], .l [.w ⟨#[114, 101, 116]⟩, .l [.w ⟨#[103, 101, 116]⟩, .w q, .w ⟨#[48]⟩]]]]
  | _ => [.l [.w ⟨#[102, 117, 110]⟩, .w ⟨#[102]⟩, .l [], .l [.w ⟨#[114, 101, 116]⟩, .l [.w ⟨#[99, 97, 108, 108]⟩, .w q]]]]
def nmP (i : Nat) (q : ByteArray) : ProD := match i with
  | 0 => ([(q, 1)], [])
  | 1 => ([], [(q, false, [], [.mk 4 ⟨#[]⟩ 0 [.mk 0 0 ⟨#[]⟩ []] [] []])])
  | 2 => ([], [(⟨#[102]⟩, false, [(q, 0, 0)], [.mk 4 ⟨#[]⟩ 0 [.mk 0 0 ⟨#[]⟩ []] [] []])])
  | 3 => ([], [(⟨#[102]⟩, false, [], [.mk 0 q 0 [.mk 0 1 ⟨#[]⟩ []] [] [], .mk 4 ⟨#[]⟩ 0 [.mk 0 0 ⟨#[]⟩ []] [] []])])
  | 4 => ([], [(⟨#[102]⟩, false, [], [.mk 3 q 2 [] [] [], .mk 4 ⟨#[]⟩ 0 [.mk 0 0 ⟨#[]⟩ []] [] []])])
  | 5 => ([], [(⟨#[102]⟩, false, [], [.mk 4 ⟨#[]⟩ 0 [.mk 2 0 q [.mk 0 0 ⟨#[]⟩ []]] [] []])])
  | _ => ([], [(⟨#[102]⟩, false, [], [.mk 4 ⟨#[]⟩ 0 [.mk 5 0 q []] [] []])])
theorem srcP_one {t : TokD} {p : ProD} (h : becQ t = some p) (h1 : p.1.length ≤ 32) (h2 : p.2.length ≤ 32) : srcP [t] = some p := by
  unfold srcP srcF
  rw [List.foldl_cons, List.foldl_nil]
  unfold srcS
  rw [h]
  simp [progB, h1, h2]
theorem srcP_nope {t : TokD} (h : becQ t = none) : srcP [t] = none := by
  unfold srcP srcF
  rw [List.foldl_cons, List.foldl_nil]
  unfold srcS
  rw [h]
theorem cn1 (c : UInt8) (n : Int) (r : List TokD) (h : cnF [.w ⟨#[c]⟩] = some (n, [])) : cnF (.w ⟨#[c]⟩ :: r) = some (n, r) := by
  unfold cnF at h ⊢
  simp only [wdF] at h ⊢
  split at h
  · next hh => rw [if_pos hh]; simp only [Option.some.injEq, Prod.mk.injEq] at h; rw [h.1]
  · cases h
theorem ret0_st : pSt (.l [.w ⟨#[114, 101, 116]⟩, .w ⟨#[48]⟩]) = some (.mk 4 ⟨#[]⟩ 0 [.mk 0 0 ⟨#[]⟩ []] [] []) := by kernel_rfl
theorem nm_src0 (q : ByteArray) : becQ (.l [.w ⟨#[115, 101, 99, 114, 101, 116]⟩, .w q, .w ⟨#[49]⟩]) = if nameB (sB q) = true then some ([(q, 1)], []) else none := by
  rw [becQ_l]
  simp only [wdF]
  rw [show kinQ ⟨#[115, 101, 99, 114, 101, 116]⟩ = some none from rfl]
  simp only [rdItm, rdA, wdF]
  rw [show cnF [.w ⟨#[49]⟩] = some (1, []) by kernel_rfl]
  have e : arrB (q, 1) = nameB (sB q) := by show (nameB (sB q) && true) = _; simp
  simp only [e]
  cases nameB (sB q) <;> rfl
theorem fun_head (ts : List TokD) : becQ (.l (.w ⟨#[102, 117, 110]⟩ :: ts)) = match rdF false ts with
    | some z => if z.2 = [] then some z.1 else none
    | none => none := by
  rw [becQ_l]
  simp only [wdF]
  rw [show kinQ ⟨#[102, 117, 110]⟩ = some (some false) from rfl]
  rfl
theorem nm_src1 (q : ByteArray) : becQ (.l [.w ⟨#[102, 117, 110]⟩, .w q, .l [], .l [.w ⟨#[114, 101, 116]⟩, .w ⟨#[48]⟩]]) = if nameB (sB q) = true then some ([], [(q, false, [], [.mk 4 ⟨#[]⟩ 0 [.mk 0 0 ⟨#[]⟩ []] [] []])]) else none := by
  rw [fun_head]
  simp only [rdF, wdF, List.map_cons, List.map_nil, ret0_st]
  rw [show allO ([] : List (Option ParD)) = some [] from rfl, show allO [some (.mk 4 ⟨#[]⟩ 0 [.mk 0 0 ⟨#[]⟩ []] [] [] : StmtD)] = some [.mk 4 ⟨#[]⟩ 0 [.mk 0 0 ⟨#[]⟩ []] [] []] from rfl]
  have e : funB q 0 = nameB (sB q) := by show (nameB (sB q) && true) = _; simp
  simp only [List.length_nil, e]
  cases nameB (sB q) <;> rfl
theorem fun_f (ps : List TokD) (us : List TokD) : becQ (.l (.w ⟨#[102, 117, 110]⟩ :: .w ⟨#[102]⟩ :: .l ps :: us)) = match allO (ps.map pP) with
    | none => none
    | some pars => match allO (us.map pSt) with
      | none => none
      | some b => if pars.length ≤ 6 then some ([], [(⟨#[102]⟩, false, pars, b)]) else none := by
  rw [fun_head]
  simp only [rdF, wdF]
  cases allO (ps.map pP) with
  | none => rfl
  | some pars =>
    cases allO (us.map pSt) with
    | none => rfl
    | some b =>
      have e : funB ⟨#[102]⟩ pars.length = decide (pars.length ≤ 6) := by show (true && decide (pars.length ≤ 6)) = _; simp
      simp only [e]
      by_cases h : pars.length ≤ 6
      · simp [h]
      · simp [h]
theorem nm_src2 (q : ByteArray) : becQ (.l [.w ⟨#[102, 117, 110]⟩, .w ⟨#[102]⟩, .l [.w q], .l [.w ⟨#[114, 101, 116]⟩, .w ⟨#[48]⟩]]) = if nameB (sB q) = true then some ([], [(⟨#[102]⟩, false, [(q, 0, 0)], [.mk 4 ⟨#[]⟩ 0 [.mk 0 0 ⟨#[]⟩ []] [] []])]) else none := by
  rw [fun_f]
  simp only [List.map_cons, List.map_nil, ret0_st, pP, chkP]
  have e : mparB (q, 0, 0) = nameB (sB q) := by show (true && nameB (sB q) && true) = _; simp
  simp only [e]
  cases nameB (sB q) <;> rfl
theorem st_nm (k : Nat) (h q : ByteArray) (ts : List TokD) (hk : kinS h = some k) : pSt (.l (.w h :: ts)) = (rdS k ts (ts.map pS)).bind chkS := by
  unfold pSt
  rw [pS_l, becS_l]
  simp only [wdF, hk]
theorem nm_set (q : ByteArray) : pSt (.l [.w ⟨#[115, 101, 116]⟩, .w q, .w ⟨#[49]⟩]) = if nameB (sB q) = true then some (.mk 0 q 0 [.mk 0 1 ⟨#[]⟩ []] [] []) else none := by
  rw [st_nm 0 _ q _ rfl]
  rw [show rdS 0 [.w q, .w ⟨#[49]⟩] ([.w q, .w ⟨#[49]⟩].map pS) = some (.mk 0 q 0 [.mk 0 1 ⟨#[]⟩ []] [] []) by kernel_rfl]
  have e : stB 0 q 0 1 0 0 = nameB (sB q) := by show (true && nameB (sB q) && true && true && true) = _; simp
  simp only [Option.bind_some, chkS, List.length_cons, List.length_nil, Nat.zero_add, e]
theorem nm_for (q : ByteArray) : pSt (.l [.w ⟨#[102, 111, 114]⟩, .w q, .w ⟨#[50]⟩]) = if nameB (sB q) = true then some (.mk 3 q 2 [] [] []) else none := by
  rw [st_nm 3 _ q _ rfl]
  rw [show rdS 3 [.w q, .w ⟨#[50]⟩] ([.w q, .w ⟨#[50]⟩].map pS) = some (.mk 3 q 2 [] [] []) by kernel_rfl]
  have e : stB 3 q 2 0 0 0 = nameB (sB q) := by show (true && nameB (sB q) && true && true && true) = _; simp
  simp only [Option.bind_some, chkS, List.length_nil, e]
theorem nm_get (q : ByteArray) : pE (.l [.w ⟨#[103, 101, 116]⟩, .w q, .w ⟨#[48]⟩]) = if nameB (sB q) = true then some (.mk 2 0 q [.mk 0 0 ⟨#[]⟩ []]) else none := by
  rw [pE_head]
  rw [show kinE ⟨#[103, 101, 116]⟩ = some (2, 0, true) from rfl]
  simp only
  rw [show rdE 2 0 true [.w q, .w ⟨#[48]⟩] ([.w q, .w ⟨#[48]⟩].map pE) = some (.mk 2 0 q [.mk 0 0 ⟨#[]⟩ []]) by kernel_rfl]
  have e : exB 2 0 q 1 = nameB (sB q) := by show (true && nameB (sB q) && true && true) = _; simp
  simp only [Option.bind_some, chkE, List.length_cons, List.length_nil, Nat.zero_add, e]
theorem nm_call (q : ByteArray) : pE (.l [.w ⟨#[99, 97, 108, 108]⟩, .w q]) = if nameB (sB q) = true then some (.mk 5 0 q []) else none := by
  rw [pE_head]
  rw [show kinE ⟨#[99, 97, 108, 108]⟩ = some (5, 0, true) from rfl]
  simp only
  rw [show rdE 5 0 true [.w q] ([.w q].map pE) = some (.mk 5 0 q []) by kernel_rfl]
  have e : exB 5 0 q 0 = nameB (sB q) := by show (true && nameB (sB q) && true && true) = _; simp
  simp only [Option.bind_some, chkE, List.length_nil, e]
theorem ret_st (t : TokD) : pSt (.l [.w ⟨#[114, 101, 116]⟩, t]) = (pE t).map fun e => .mk 4 ⟨#[]⟩ 0 [e] [] [] := by
  rw [st_nm 4 _ ⟨#[]⟩ _ rfl]
  unfold rdS
  rw [show (stmR 4).2.1 = false from rfl, show (stmR 4).2.2.1 = false from rfl, show (stmR 4).2.2.2.1.toNat = 1 from rfl, show (stmR 4).2.2.2.2 = 0 from rfl]
  simp only [rdName, rdCount, rdArgs, Bool.false_eq_true, if_false]
  cases pE t with
  | none => rfl
  | some x => kernel_rfl
theorem nmP_len (i : Nat) (hi : i < 7) (q : ByteArray) : (nmP i q).1.length ≤ 1 ∧ (nmP i q).2.length ≤ 1 := by
  match i, hi with
  | 0, _ => exact ⟨Nat.le_refl _, Nat.zero_le _⟩
  | 1, _ => exact ⟨Nat.zero_le _, Nat.le_refl _⟩
  | 2, _ => exact ⟨Nat.zero_le _, Nat.le_refl _⟩
  | 3, _ => exact ⟨Nat.zero_le _, Nat.le_refl _⟩
  | 4, _ => exact ⟨Nat.zero_le _, Nat.le_refl _⟩
  | 5, _ => exact ⟨Nat.zero_le _, Nat.le_refl _⟩
  | 6, _ => exact ⟨Nat.zero_le _, Nat.le_refl _⟩
theorem nm_src (i : Nat) (hi : i < 7) (q : ByteArray) : srcP (nmT i q) = if nameB (sB q) = true then some (nmP i q) else none := by
  match i, hi with
  | 0, _ =>
    have e := nm_src0 q
    cases hb : nameB (sB q) <;> rw [hb] at e
    · exact srcP_nope e
    · exact srcP_one e (by have := nmP_len 0 (by omega) q; omega) (by have := nmP_len 0 (by omega) q; omega)
  | 1, _ =>
    have e := nm_src1 q
    cases hb : nameB (sB q) <;> rw [hb] at e
    · exact srcP_nope e
    · exact srcP_one e (by have := nmP_len 1 (by omega) q; omega) (by have := nmP_len 1 (by omega) q; omega)
  | 2, _ =>
    have e := nm_src2 q
    cases hb : nameB (sB q) <;> rw [hb] at e
    · exact srcP_nope e
    · exact srcP_one e (by have := nmP_len 2 (by omega) q; omega) (by have := nmP_len 2 (by omega) q; omega)
  | 3, _ =>
    have e := fun_f [] [.l [.w ⟨#[115, 101, 116]⟩, .w q, .w ⟨#[49]⟩], .l [.w ⟨#[114, 101, 116]⟩, .w ⟨#[48]⟩]]
    simp only [List.map_cons, List.map_nil, ret0_st, nm_set] at e
    cases hb : nameB (sB q) <;> rw [hb] at e
    · exact srcP_nope e
    · exact srcP_one e (by have := nmP_len 3 (by omega) q; omega) (by have := nmP_len 3 (by omega) q; omega)
  | 4, _ =>
    have e := fun_f [] [.l [.w ⟨#[102, 111, 114]⟩, .w q, .w ⟨#[50]⟩], .l [.w ⟨#[114, 101, 116]⟩, .w ⟨#[48]⟩]]
    simp only [List.map_cons, List.map_nil, ret0_st, nm_for] at e
    cases hb : nameB (sB q) <;> rw [hb] at e
    · exact srcP_nope e
    · exact srcP_one e (by have := nmP_len 4 (by omega) q; omega) (by have := nmP_len 4 (by omega) q; omega)
  | 5, _ =>
    have e := fun_f [] [.l [.w ⟨#[114, 101, 116]⟩, .l [.w ⟨#[103, 101, 116]⟩, .w q, .w ⟨#[48]⟩]]]
    simp only [List.map_cons, List.map_nil, ret_st, nm_get] at e
    cases hb : nameB (sB q) <;> rw [hb] at e
    · exact srcP_nope e
    · exact srcP_one e (by have := nmP_len 5 (by omega) q; omega) (by have := nmP_len 5 (by omega) q; omega)
  | 6, _ =>
    have e := fun_f [] [.l [.w ⟨#[114, 101, 116]⟩, .l [.w ⟨#[99, 97, 108, 108]⟩, .w q]]]
    simp only [List.map_cons, List.map_nil, ret_st, nm_call] at e
    cases hb : nameB (sB q) <;> rw [hb] at e
    · exact srcP_nope e
    · exact srcP_one e (by have := nmP_len 6 (by omega) q; omega) (by have := nmP_len 6 (by omega) q; omega)
end Go.Proofs.YtbhdbglhejibbaaGreatDoor
