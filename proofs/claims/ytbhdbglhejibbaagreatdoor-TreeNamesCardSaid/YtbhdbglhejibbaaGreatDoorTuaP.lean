/- Layer 10: what the document fixes, reckoned. No condition.
   Layer 10: what the document fixes. Condition: the tables read as they should. -/
import Derived.Test.YtbhdbglhejibbaaGreatDoorTsaA
import Derived.Test.YtbhdbglhejibbaaGreatDoorTtaA
import Derived.Test.YtbhdbglhejibbaaGreatDoorTuaG
namespace Go.Proofs.YtbhdbglhejibbaaGreatDoor
set_option maxRecDepth 100000
open Go.RowKit
set_option linter.unusedVariables false
def sAw : ByteArray := ⟨#[40, 115, 101, 99, 114, 101, 116, 32, 107, 32, 49, 41, 32, 40, 101, 120, 112, 111, 114, 116, 32, 102, 32, 40, 97, 32, 40, 112, 116, 114, 32, 98, 32, 50, 41, 41, 32, 40, 112, 117, 116, 32, 98, 32, 48, 32, 97, 41, 10, 40, 114, 101, 116, 32, 40, 97, 100, 100, 32, 97, 32, 49, 41, 41, 41]⟩
def tAw : ByteArray := ⟨#[40, 115, 101, 99, 114, 101, 116, 32, 107, 32, 49, 41, 10, 40, 101, 120, 112, 111, 114, 116, 32, 102, 32, 40, 97, 32, 40, 112, 116, 114, 32, 98, 32, 50, 41, 41, 32, 40, 112, 117, 116, 32, 98, 32, 48, 32, 97, 41, 32, 40, 114, 101, 116, 32, 40, 97, 100, 100, 32, 97, 32, 49, 41, 41, 41, 10]⟩
def sBw : ByteArray := ⟨#[40, 101, 120, 112, 111, 114, 116, 32, 102, 41]⟩
def tsA : List TokD := [.l [.w ⟨#[115, 101, 99, 114, 101, 116]⟩, .w ⟨#[107]⟩, .w ⟨#[49]⟩], .l [.w ⟨#[101, 120, 112, 111, 114, 116]⟩, .w ⟨#[102]⟩, .l [.w ⟨#[97]⟩, .l [.w ⟨#[112, 116, 114]⟩, .w ⟨#[98]⟩, .w ⟨#[50]⟩]], .l [.w ⟨#[112, 117, 116]⟩, .w ⟨#[98]⟩, .w ⟨#[48]⟩, .w ⟨#[97]⟩], .l [.w ⟨#[114, 101, 116]⟩, .l [.w ⟨#[97, 100, 100]⟩, .w ⟨#[97]⟩, .w ⟨#[49]⟩]]]]
def tsB : List TokD := [.l [.w ⟨#[101, 120, 112, 111, 114, 116]⟩, .w ⟨#[102]⟩]]
def pAw : ProD := ([(⟨#[107]⟩, 1)], [(⟨#[102]⟩, true, [(⟨#[97]⟩, 0, 0), (⟨#[98]⟩, 2, 2)], [.mk 1 ⟨#[98]⟩ 0 [.mk 0 0 ⟨#[]⟩ [], .mk 1 0 ⟨#[97]⟩ []] [] [], .mk 4 ⟨#[]⟩ 0 [.mk 3 0 ⟨#[]⟩ [.mk 1 0 ⟨#[97]⟩ [], .mk 0 1 ⟨#[]⟩ []]] [] []])])
theorem wordsA : wordsV sAw = some (flats tsA) := by kernel_rfl
theorem wordsB : wordsV sBw = some (flats tsB) := by kernel_rfl
theorem srcA : srcP tsA = some pAw := by kernel_rfl
theorem srcB : srcP tsB = none := by kernel_rfl
theorem prtA : prtE pAw = (tAw, 0) := by kernel_rfl
theorem funzA : funZ pAw.2 ≤ 100 := by decide +kernel
theorem okA : ToksOk tsA := by
  unfold tsA
  simp only [ToksOk, TokOk]
  decide
theorem okB : ToksOk tsB := by
  unfold tsB
  simp only [ToksOk, TokOk]
  decide
theorem ParsR.one {s : ByteArray} {r : Option ProD} {ts : List TokD} (h : ParsR s r) (ho : ToksOk ts) (hw : wordsV s = some (flats ts)) : r = srcP ts := by
  rcases h with ⟨h, _⟩ | ⟨us, h1, h2, h3⟩
  · rw [hw] at h; cases h
  · rw [hw] at h2
    rw [h3, flats_inj h1 ho (Option.some.inj h2).symm]
end Go.Proofs.YtbhdbglhejibbaaGreatDoor
namespace Go.Proofs.YtbhdbglhejibbaaGreatDoor
set_option maxRecDepth 100000
open Go.RowKit
set_option linter.unusedVariables false
theorem tparse10 (s : ByteArray) (w : World) (hT : TrT w) (hL : LxT w) : Calls Tryz.prog 13 #[.string s] w (ParseE s w) := tparse_any (fun w h1 h2 => newReader_any w h1 h2) s w hT hL
/-- what Parse hands back of words that are known -/
theorem parse_known {s : ByteArray} {ts : List TokD} (hs : s.size ≤ 20000) (ho : ToksOk ts) (hw : wordsV s = some (flats ts)) (w : World) (hT : TrT w) (hL : LxT w) : Calls Tryz.prog 13 #[.string s] w (LackQP (srcP ts) 3 w) :=
  (tparse10 s w hT hL).mono fun e w' h => by
    unfold ParseE at h
    rw [if_neg (by omega)] at h
    obtain ⟨r, h1, h2⟩ := h
    rw [h1.one ho hw] at h2
    exact h2
theorem op_known {s : ByteArray} {k : Nat} (hk : k < 13) (hs : opsW k = s) (w : World) (hT : TrT w) : Calls Tryz.prog 15 #[.string s] w fun e w' => e = .returned (.tuple #[.int .i64 (opsR k).2, .bool true]) ∧ Below w.heap.size w w' :=
  (op_any s w hT).mono fun e w' ⟨h, hb⟩ => by
    refine ⟨?_, hb⟩
    rcases h with ⟨j, hj, h1, h2, h3⟩ | ⟨h1, _⟩
    · have hjk : j = k := by
        have hall : ∀ a, a < 13 → ∀ b, b < 13 → opsW a = opsW b → a = b := by decide +kernel
        exact hall j hj k hk (h1.trans hs.symm)
      rw [h3, hjk]
    · exact absurd hs (h1 k hk)
/-- a source that came back, as a value that others take -/
theorem LsA.proV {w w' W : World} {p : ProD} {v1 v2 : Value} (h1 : LsA w.heap.size w' p.1 v1) (h2 : LsF w.heap.size w' p.2 v2) : ∃ A1 c1 A2 c2, v1 = .slice A1 p.1.length c1 ∧ v2 = .slice A2 p.2.length c2 ∧ ProV w' (NewS w.heap.size w') p A1 c1 A2 c2 ∧ (∀ x ∈ p.1, ArrW x) ∧ (∀ x ∈ p.2, FunW x) := by
  obtain ⟨A1, c1, e1, g1, g2, g3, g4⟩ := h1
  obtain ⟨A2, c2, e2, k1, k2, k3, k4⟩ := h2
  exact ⟨A1, c1, A2, c2, e1, e2, ⟨g1, k1, g3, k3⟩, g4, k4⟩
set_option maxHeartbeats 8000000 in
theorem awake10_yes (w : World) (hT : TrT w) (hL : LxT w) : Calls Tryz.prog 9 #[] w fun e w' => e = .returned (.bool true) ∧ Below w.heap.size w w' := by
  have HA := Lib.hid (parse_known (s := sAw) (ts := tsA) (by decide +kernel) okA wordsA w hT hL)
  have HT := Lib.hid hT
  have HL := Lib.hid hL
  rw [srcA] at HA
  unfold sAw at HA
  clear hT hL
  go_enter Tryz.func9, Tryz.ntmps9
  go_wp2_with fail
  refine HA.out.mono ?_
  rintro e w1 ⟨hb1, v1, v2, rfl, hv1, hv2⟩
  obtain ⟨A1, c1, A2, c2, rfl, rfl, hV, hW1, hW2⟩ := LsA.proV (W := w1) hv1 hv2
  have hS : ∀ b, NewS w.heap.size w1 b → PlB w1 b := fun b h => h.2
  obtain ⟨A', c', b', o', hA2, hsb, hfc⟩ : ∃ A' c' b' o', A2 = some ⟨b', o', none⟩ ∧ NewS w.heap.size w1 b' ∧ w1.cell? ⟨b', o' + 3, none⟩ = some (.slice A' 2 c') := by
    rcases hV.2.2.2 with e | ⟨b, o, e, hs, hf⟩
    · cases e
    · obtain ⟨_, _, _, A', c', h5, _⟩ := hf 0 (by decide +kernel)
      exact ⟨A', c', b, o, e, hs, h5⟩
  subst hA2
  have hb2 := (Below.refl w1.heap.size w1).alloc (Nat.le_refl _) (.cells #[.slice A1 pAw.1.length c1, .slice (some ⟨b', o', none⟩) pAw.2.length c2] 25)
  have h0 := heap_alloc_new w1 (.cells #[.slice A1 pAw.1.length c1, .slice (some ⟨b', o', none⟩) pAw.2.length c2] 25)
  obtain ⟨hV2, hS2⟩ := hV.below hS hb2
  have HP := Lib.hid (print_any pAw ⟨⟨by decide +kernel, hW1⟩, by decide +kernel, hW2⟩ (NewS w.heap.size w1) A1 (some ⟨b', o', none⟩) c1 c2 _ (HT.out.below (hb1.trans (hb2.mono hb1.size))) (HL.out.below (hb1.trans (hb2.mono hb1.size))) hS2 hV2)
  have HV := Lib.hid (And.intro hV2 hS2)
  have HX := Lib.hid h0
  have HB := Lib.hid (hb1.trans (hb2.mono hb1.size))
  have HFc := Lib.hid ((hb2.cell (p := ⟨b', o' + 3, none⟩) (block_lt hfc)).trans hfc)
  have HW := Lib.hid (And.intro hW1 hW2)
  have HS1 := Lib.hid hS
  clear hfc hsb hv1 hv2 hb1 hb2 h0 hV hV2 hS hS2 hW1 hW2 HA
  have hl1 : pAw.1.length = 1 := rfl
  have hl2 : pAw.2.length = 1 := rfl
  rw [hl1, hl2] at HP HX HB HV HFc
  go_wp2_with fail
  refine HP.out.mono ?_
  generalize w1.alloc (.cells #[.slice A1 1 c1, .slice (some ⟨b', o', none⟩) 1 c2] 25) = W at *
  rintro e w2 ⟨hb3, he⟩
  rw [prtA] at he
  subst he
  unfold tAw
  have HB3 := Lib.hid hb3
  have HT2 := Lib.hid (HT.out.below (HB.out.trans (hb3.mono HB.out.size)))
  have HL2 := Lib.hid (HL.out.below (HB.out.trans (hb3.mono HB.out.size)))
  have HQ := Lib.hid (parse_known (s := sBw) (ts := tsB) (by decide +kernel) okB wordsB w2 HT2.out HL2.out)
  rw [srcB] at HQ
  unfold sBw at HQ
  clear hb3 HP
  go_wp2_with fail
  refine HQ.out.mono ?_
  rintro e w3 ⟨hb4, rfl⟩
  have hb5 := hb4.trans (((Below.refl w3.heap.size w3).alloc (Nat.le_refl _) (.cells #[.slice none 0 0, .slice none 0 0] 25)).mono hb4.size)
  have HO := Lib.hid ((op_known (s := ⟨#[114, 101, 109, 117]⟩) (k := 12) (by decide) rfl _ (HT2.out.below hb5)).mono fun e w' h => show e = .returned (.tuple #[.int .i64 15, .bool true]) ∧ Below (w3.alloc (.cells #[.slice none 0 0, .slice none 0 0] 25)).heap.size (w3.alloc (.cells #[.slice none 0 0, .slice none 0 0] 25)) w' from h)
  have HB5 := Lib.hid hb5
  clear hb4 hb5 HQ
  go_wp2_with fail
  refine HO.out.mono ?_
  rintro e w4 ⟨rfl, hb6⟩
  have hbW : Below W.heap.size W w4 := HB3.out.trans ((HB5.out.trans (hb6.mono HB5.out.size)).mono HB3.out.size)
  have hx := (hbW.block _ (Array.getElem?_eq_some_iff.1 HX.out).1).trans HX.out
  obtain ⟨x0, x1⟩ := row2c hx
  have x2 := (hbW.cell (p := ⟨b', o' + 3, none⟩) (block_lt HFc.out)).trans HFc.out
  obtain ⟨hV4, hS4⟩ := HV.out.1.below HV.out.2 hbW
  have HSm := Lib.hid (tsame_any pAw pAw (NewS w.heap.size w1) A1 (some ⟨b', o', none⟩) A1 (some ⟨b', o', none⟩) c1 c2 c1 c2 w4 hS4 hV4 hV4 (fun C => stmC_same rfl) (by decide +kernel) (by decide +kernel) (by have := funzA; omega))
  rw [hl1, hl2] at HSm
  have HBe := Lib.hid (HB.out.trans (hbW.mono HB.out.size))
  clear hbW hx hV4 hS4 hb6 HO
  go_wp2_with fail
  refine HSm.out.mono ?_
  rintro e w5 ⟨r, rfl, hr, hb7⟩
  have hr1 : r = true := hr.2 rfl
  subst hr1
  have HR := Lib.hid (HBe.out.trans (hb7.mono HBe.out.size))
  clear hb7
  go_wp2
  go_ret
  exact ⟨rfl, HR.out⟩
end Go.Proofs.YtbhdbglhejibbaaGreatDoor
