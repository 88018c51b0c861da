/- Layer 9: Number, of the program. Condition: LxT. -/
import Derived.Test.YtbhdbglhejibbaaGreatDoorLexD
namespace Go.Proofs.YtbhdbglhejibbaaGreatDoor
set_option maxRecDepth 100000
open Go.RowKit Go.Sort
set_option linter.unusedVariables false
theorem below_bytes (w : World) (e : TypeId) (s : ByteArray) : Below w.heap.size w (Lib.bytesWorld w e s) := Lib.bytesWorld_below w e s
theorem parse_ok (s : ByteArray) (hs : s.size ≤ 1000000000) (u : Nat) (h : Lib.parseUintB 64 s.data.toList = .ok u) (w : World) :
    Calls Tryz.prog 124 #[.string s, .int .i64 10, .int .i64 64] w fun e w' => e = .returned (.tuple #[.int .u64 u, .nilIface]) ∧ Below w.heap.size w w' :=
  (Any.strconv_ParseUint_10_at64_ok Tryz.laysPu s (by omega) u h w).mono fun e w' ⟨h1, h2⟩ => ⟨h1, by
    rcases h2 with rfl | rfl
    · exact Below.refl _ _
    · exact below_bytes _ _ _⟩
theorem parse_bad (s : ByteArray) (hs : s.size ≤ 1000000000) (h : ∀ u, Lib.parseUintB 64 s.data.toList ≠ .ok u) (w : World) (hT : LxT w) :
    Calls Tryz.prog 124 #[.string s, .int .i64 10, .int .i64 64] w fun e w' => ∃ (u : Int) (N : Nat), e = .returned (.tuple #[.int .u64 u, .iface 235 (.pointer (some ⟨N, 0, none⟩))]) ∧ Below w.heap.size w w' := by
  obtain ⟨_, ⟨ev1, h1, h2⟩, ⟨ev2, h3, h4⟩, _⟩ := hT
  cases hp : Lib.parseUintB 64 s.data.toList
  case ok u => exact absurd hp (h u)
  case range => exact (Any.strconv_ParseUint_10_at64_range Tryz.laysPu s (by omega) hp ev2 w h3 h4).mono fun e w' ⟨N, k1, _, _, k2⟩ => ⟨_, N, k1, k2⟩
  exact (Any.strconv_ParseUint_10_at64_syntax Tryz.laysPu s (by omega) hp ev1 w h1 h2).mono fun e w' ⟨N, k1, _, _, k2⟩ => ⟨_, N, k1, k2⟩
/-- what Number answers -/
def numV (s : ByteArray) : Int := match numP s.data.toList with | some u => u | none => 0
def numB (s : ByteArray) : Bool := (numP s.data.toList).isSome
def NumE (s : ByteArray) (w : World) (e : Ending) (w' : World) : Prop := e = .returned (.tuple #[.int .u64 (numV s), .bool (numB s)]) ∧ Below w.heap.size w w'
set_option maxHeartbeats 1000000 in
theorem lexnum_any (s : ByteArray) (hs : s.size ≤ 1000000000) (w : World) (hT : LxT w) : Calls Tryz.prog 105 #[.string s] w (NumE s w) := by
  have HT := Lib.hid hT
  clear hT
  cases hp : Lib.parseUintB 64 s.data.toList
  case ok u =>
    have hu : u < 18446744073709551616 := parseB_le hp
    have HP := Lib.hid (parse_ok s hs u hp w)
    have hbs := tl_beq ⟨(Lib.decDigits u).toArray⟩ s
    have HU := Lib.hid hu
    by_cases hd : Lib.decDigits u = s.data.toList
    · have HV := Lib.hid (show numP s.data.toList = some u from by unfold numP; rw [hp]; exact if_pos hd)
      have hb : ((Lib.decDigits u) == s.toList) = true := by rw [ByteArray.toList_eq, hd]; simp
      have hb2 : ((Lib.decDigits u) != s.toList) = false := by unfold bne; rw [hb]; rfl
      clear hp hs hd hbs hu
      go_enter Tryz.func105, Tryz.ntmps105
      go_wp2_with fail
      refine HP.out.mono ?_
      rintro e w1 ⟨rfl, hb1⟩
      have HB1 := Lib.hid hb1
      have HD := Lib.hid (digits_any u HU.out w1 (HT.out.below hb1))
      clear hb1
      go_wp2_with fail
      refine HD.out.mono ?_
      rintro e w2 ⟨rfl, hb3⟩
      have HB2 := Lib.hid (HB1.out.trans (hb3.mono HB1.out.size))
      clear hb3
      go_wp2
      go_ret2
      exact ⟨by unfold numV numB; rw [HV.out]; rfl, HB2.out⟩
    · have HV := Lib.hid (show numP s.data.toList = none from by unfold numP; rw [hp]; exact if_neg hd)
      have hb : ((Lib.decDigits u) == s.toList) = false := by rw [ByteArray.toList_eq]; simpa using hd
      have hb2 : ((Lib.decDigits u) != s.toList) = true := by unfold bne; rw [hb]; rfl
      clear hp hs hd hbs hu
      go_enter Tryz.func105, Tryz.ntmps105
      go_wp2_with fail
      refine HP.out.mono ?_
      rintro e w1 ⟨rfl, hb1⟩
      have HB1 := Lib.hid hb1
      have HD := Lib.hid (digits_any u HU.out w1 (HT.out.below hb1))
      clear hb1
      go_wp2_with fail
      refine HD.out.mono ?_
      rintro e w2 ⟨rfl, hb3⟩
      have HB2 := Lib.hid (HB1.out.trans (hb3.mono HB1.out.size))
      clear hb3
      go_wp2
      go_ret2
      exact ⟨by unfold numV numB; rw [HV.out]; rfl, HB2.out⟩
  all_goals
    have HV := Lib.hid (show numP s.data.toList = none from by unfold numP; rw [hp])
    have HP := Lib.hid (parse_bad s hs (fun u e => by rw [hp] at e; cases e) w HT.out)
    clear hp hs HT
    go_enter Tryz.func105, Tryz.ntmps105
    go_wp2_with fail
    refine HP.out.mono ?_
    rintro e w1 ⟨u, N, rfl, hb1⟩
    have HB1 := Lib.hid hb1
    clear hb1
    go_wp2
    go_ret2
    exact ⟨by unfold numV numB; rw [HV.out]; rfl, HB1.out⟩
end Go.Proofs.YtbhdbglhejibbaaGreatDoor
