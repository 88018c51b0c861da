/- Layer 9: what the document fixes (awake). Condition: LxT. -/
import Derived.Test.YtlkpfblpofjekaaDoorLexK
import Derived.Test.YtlkpfblpofjekaaDoorLexL
namespace Go.Proofs.YtlkpfblpofjekaaDoor
set_option maxRecDepth 100000
open Go.RowKit Go.Sort
set_option linter.unusedVariables false
def wsTwo : List ByteArray := [⟨#[97]⟩, ⟨#[40]⟩, ⟨#[98]⟩, ⟨#[41]⟩]
theorem items_two : itmP wsTwo 0 [] = [[⟨#[97]⟩], [⟨#[40]⟩, ⟨#[98]⟩, ⟨#[41]⟩]] := by decide +kernel
theorem nst_two : nstB wsTwo = true := by decide +kernel
theorem nst_nil : nstB [] = true := by decide +kernel
theorem new_wd (w : World) (l : List ByteArray) (t : TypeId) : WdAt (w.alloc (.cells (l.map Value.string).toArray t)) (some ⟨w.heap.size, 0, none⟩) l := by
  refine .inr ⟨w.heap.size, 0, rfl, fun k hk => ?_⟩
  rw [World.cell?_alloc_new, Nat.zero_add]
  unfold wdK
  simp [hk]
theorem num_top : numV ⟨#[49, 56, 52, 52, 54, 55, 52, 52, 48, 55, 51, 55, 48, 57, 53, 53, 49, 54, 49, 53]⟩ = 18446744073709551615 ∧ numB ⟨#[49, 56, 52, 52, 54, 55, 52, 52, 48, 55, 51, 55, 48, 57, 53, 53, 49, 54, 49, 53]⟩ = true := by
  unfold numV numB
  have h : numP (⟨#[49, 56, 52, 52, 54, 55, 52, 52, 48, 55, 51, 55, 48, 57, 53, 53, 49, 54, 49, 53]⟩ : ByteArray).data.toList = some 18446744073709551615 := numP_top
  rw [h]; exact ⟨rfl, rfl⟩
theorem num_zero_one : numV ⟨#[48, 49]⟩ = 0 ∧ numB ⟨#[48, 49]⟩ = false := by
  unfold numV numB
  have h : numP (⟨#[48, 49]⟩ : ByteArray).data.toList = none := numP_zero_one
  rw [h]; exact ⟨rfl, rfl⟩
theorem RowsOwn.cell {B : Nat} {w : World} {rs : List (List ByteArray)} {A : Option Addr} {n c : Nat} (h : RowsOwn B w rs (.slice A n c)) (j : Nat) (hj : j < rs.length) :
    ∃ g A' c', A = some ⟨g, 0, none⟩ ∧ w.cell? ⟨g, j, none⟩ = some (.slice A' (rwK rs j).length c') ∧ Own B w (rwK rs j) (.slice A' (rwK rs j).length c') := by
  obtain ⟨vs, h1, h2⟩ := h
  obtain ⟨A', c', h3, h4⟩ := h2 j hj
  rcases h1.2 with ⟨h5, h6⟩ | ⟨g, cap, cur, h5, _⟩
  · exact absurd hj (by rw [h6]; omega)
  · injection h5 with h5 _ _
    refine ⟨g, A', c', h5, ?_, h4⟩
    have := World.ownsRow.cells h1 (g := g) (by rw [h5]; rfl) j _ h3
    rw [addr_add, Nat.zero_add] at this
    exact this
def AwakeE (w : World) (e : Ending) (w' : World) : Prop := e = .returned (.bool true) ∧ Below w.heap.size w w'
set_option maxHeartbeats 8000000 in
theorem awake_yes (w : World) (hT : LxT w) : Calls Tryd.prog 8 #[] w (AwakeE w) := by
  have HT := Lib.hid hT
  have HW := Lib.hid (words_any ⟨#[40, 115, 101, 116, 32, 120, 32, 49, 41, 32, 59, 32, 105, 116, 10]⟩ (by decide) w hT)
  clear hT
  go_enter Tryd.func8, Tryd.ntmps8
  go_wp2_with fail
  refine HW.out.mono ?_
  rintro e w1 ⟨hb1, ⟨hw, _⟩ | ⟨ws, A1, c1, hw, _, rfl, ho⟩⟩
  · rw [words_one] at hw; cases hw
  rw [words_one] at hw
  cases hw
  have HB1 := Lib.hid hb1
  have HO1 := Lib.hid (show WdAt w1 A1 wsOne from ho.wd)
  have HW2 := Lib.hid (words_any ⟨#[40]⟩ (by decide) w1 (HT.out.below hb1))
  rw [show wsOne.length = 5 from rfl]
  clear hb1 ho
  go_wp2_with fail
  refine HW2.out.mono ?_
  rintro e w2 ⟨hb2, ⟨_, rfl⟩ | ⟨ws, A1, c1, hw, _⟩⟩
  case inr => rw [words_two] at hw; cases hw
  have HB2 := Lib.hid (HB1.out.trans (hb2.mono HB1.out.size))
  have HO2 := Lib.hid (HO1.out.below hb2)
  have HN1 := Lib.hid (number_any ⟨#[49, 56, 52, 52, 54, 55, 52, 52, 48, 55, 51, 55, 48, 57, 53, 53, 49, 54, 49, 53]⟩ (by decide) w2 (HT.out.below HB2.out))
  clear hb2 HW HW2
  go_wp2_with fail
  refine HN1.out.mono ?_
  rintro e w3 ⟨rfl, hb3⟩
  rw [num_top.2]
  have hv := num_top.1
  have hvb : (numV ⟨#[49, 56, 52, 52, 54, 55, 52, 52, 48, 55, 51, 55, 48, 57, 53, 53, 49, 54, 49, 53]⟩ == 18446744073709551615) = true := by rw [hv]; rfl
  clear hv HN1
  generalize numV ⟨#[49, 56, 52, 52, 54, 55, 52, 52, 48, 55, 51, 55, 48, 57, 53, 53, 49, 54, 49, 53]⟩ = N at *
  have HB3 := Lib.hid (HB2.out.trans (hb3.mono HB2.out.size))
  have HO3 := Lib.hid (HO2.out.below hb3)
  have HN2 := Lib.hid (number_any ⟨#[48, 49]⟩ (by decide) w3 (HT.out.below HB3.out))
  clear hb3
  go_wp2_with fail
  refine HN2.out.mono ?_
  rintro e w4 ⟨rfl, hb4⟩
  rw [num_zero_one.1, num_zero_one.2]
  have HB4 := Lib.hid (HB3.out.trans (hb4.mono HB3.out.size))
  have HO4 := Lib.hid (HO3.out.below hb4)
  clear hb4 HN2
  have HI := Lib.hid (show Calls Tryd.prog 13 #[.slice (some ⟨w4.heap.size, 0, none⟩) 4 4] (w4.alloc (.cells #[.string ⟨#[97]⟩, .string ⟨#[40]⟩, .string ⟨#[98]⟩, .string ⟨#[41]⟩] 9)) (ItemsE wsTwo (w4.alloc (.cells #[.string ⟨#[97]⟩, .string ⟨#[40]⟩, .string ⟨#[98]⟩, .string ⟨#[41]⟩] 9))) from items_any wsTwo _ 4 4 rfl (by decide) (by decide) (by decide) _ (new_wd w4 wsTwo 9))
  have HBl := Lib.hid ((Below.refl w4.heap.size w4).alloc (Nat.le_refl _) (.cells #[.string ⟨#[97]⟩, .string ⟨#[40]⟩, .string ⟨#[98]⟩, .string ⟨#[41]⟩] 9))
  go_wp2_with fail
  refine HI.out.mono ?_
  rintro e w5 ⟨hb5, ⟨hn, _⟩ | ⟨_, A5, c5, rfl, hro⟩⟩
  · rw [nst_two] at hn; cases hn
  rw [show (itmP wsTwo 0 []).length = 2 from by rw [items_two]; rfl]
  have HB5' := Lib.hid (HBl.out.trans (hb5.mono HBl.out.size))
  have HB5 := Lib.hid (HB4.out.trans (HB5'.out.mono HB4.out.size))
  have HO5 := Lib.hid (HO4.out.below HB5'.out)
  obtain ⟨g, A6, c6, rfl, hcell, _⟩ := hro.cell 1 (by rw [items_two]; decide)
  rw [show (rwK (itmP wsTwo 0 []) 1).length = 3 from by rw [items_two]; rfl] at hcell
  have HC5 := Lib.hid hcell
  have HTx := Lib.hid (show Calls Tryd.prog 17 #[.slice A1 5 c1, .slice (some ⟨w5.heap.size, 0, none⟩) 5 5] (w5.alloc (.cells #[.string ⟨#[40]⟩, .string ⟨#[115, 101, 116]⟩, .string ⟨#[120]⟩, .string ⟨#[49]⟩, .string ⟨#[41]⟩] 9)) (fun e w' => e = .returned (.bool true) ∧ ∃ k, w' = (w5.alloc (.cells #[.string ⟨#[40]⟩, .string ⟨#[115, 101, 116]⟩, .string ⟨#[120]⟩, .string ⟨#[49]⟩, .string ⟨#[41]⟩] 9)).drewN k) from (texts_any wsOne wsOne A1 _ 5 5 c1 5 rfl rfl (by decide) _ (HO5.out.below ((Below.refl _ _).alloc (Nat.le_refl _) _)) (new_wd w5 wsOne 9)).mono fun e w' ⟨h1, h2⟩ => ⟨h1.trans (ret_bool' (decide_eq_true rfl)), h2⟩)
  have HBl5 := Lib.hid (((Below.refl w5.heap.size w5).alloc (Nat.le_refl _) (.cells #[.string ⟨#[40]⟩, .string ⟨#[115, 101, 116]⟩, .string ⟨#[120]⟩, .string ⟨#[49]⟩, .string ⟨#[41]⟩] 9)))
  clear hb5 hro hcell HI HBl HO4 HO1 HO2 HO3
  go_wp2_with fail
  refine HTx.out.mono ?_
  rintro e w6 ⟨rfl, k6, rfl⟩
  have HB6 := Lib.hid (show Below w5.heap.size w5 ((w5.alloc (.cells #[.string ⟨#[40]⟩, .string ⟨#[115, 101, 116]⟩, .string ⟨#[120]⟩, .string ⟨#[49]⟩, .string ⟨#[41]⟩] 9)).drewN k6) from ⟨HBl5.out.os, HBl5.out.tape, HBl5.out.output, HBl5.out.size, HBl5.out.block⟩)
  generalize (w5.alloc (.cells #[.string ⟨#[40]⟩, .string ⟨#[115, 101, 116]⟩, .string ⟨#[120]⟩, .string ⟨#[49]⟩, .string ⟨#[41]⟩] 9)).drewN k6 = w6 at *
  have hc6 := cell_below HC5.out HB6.out
  have HB7 := Lib.hid (HB5.out.trans (HB6.out.mono HB5.out.size))
  have HD := Lib.hid (digits_any 0 (by decide) w6 (HT.out.below HB7.out))
  clear HTx HBl5
  go_wp2_with fail
  refine HD.out.mono ?_
  rintro e w7 ⟨rfl, hb7⟩
  rw [dec_zero]
  have HB8 := Lib.hid (HB7.out.trans (hb7.mono HB7.out.size))
  have HNe := Lib.hid (nested_any [] none 0 0 rfl (by decide) w7 (.inl rfl))
  rw [nst_nil] at HNe
  clear hb7 HD
  go_wp2_with fail
  refine HNe.out.mono ?_
  rintro e w8 ⟨rfl, rfl⟩
  go_wp2
  go_ret
  exact ⟨rfl, HB8.out⟩
end Go.Proofs.YtlkpfblpofjekaaDoor
