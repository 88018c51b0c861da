/- Layer 2: the map of operations that are alike: keys that are structs, what such a map holds. -/
import Derived.Test.YtepkochgibjflaaDoorInsTold
import Derived.Maps.OwnSet
import Derived.Maps.OwnOps
import Derived.Maps.Views
import Derived.DeepKeys4
namespace Go.Proofs.YtepkochgibjflaaDoor
open Go.RowKit Go.Maps
set_option linter.unusedVariables false

theorem laidAll : laidOutB Tryd.prog = true := by kernel_rfl
theorem rowTold : (42 : TypeId) < Tryd.prog.types.size := of_decide_eq_true (by kernel_rfl)
theorem wideTold : (match Tryd.prog.underlying 42 with | some (.array _ _) | some (.struct _) => true | _ => false) = true := by rw [Tryd.underlying42]
theorem lawTold : Keyed Tryd.prog 42 := Keyed.of_law (deep_law_laid laidAll (m := 3) (by omega) rowTold (by kernel_rfl) wideTold)
theorem zeroInt (w : World) : (zeroValue 3).run Tryd.prog w = .ok (.int .i64 0) w := by kernel_rfl
def IsT (x : Int) : Prop := 0 ≤ x ∧ x < 4294967296
/-- a told as a key -/
def tKey (s f k r : Int) : Lit := .string (keyBytes [.int .i64 s, .int .u32 f, .int .u32 k, .int .u32 r])
theorem tKey_of (s f k r : Int) (hs : IsI s) (hf : IsT f) (hk : IsT k) (hr : IsT r) : keyOf Tryd.prog 42 (.agg #[.int .i64 s, .int .u32 f, .int .u32 k, .int .u32 r]) = some (tKey s f k r) := by
  have ws : (Lit.int .i64 s).wf = true := WalkArith.wf_i64 ⟨by have := hs.1; omega, by have := hs.2; omega⟩
  have wu : ∀ x, IsT x → (Lit.int .u32 x).wf = true := fun x hx => by
    obtain ⟨h0, h1⟩ := hx
    simp only [Lit.wf, Bool.and_eq_true, decide_eq_true_eq]
    exact ⟨h0, by show x ≤ 4294967295; omega⟩
  have h1 : Tryd.prog.keyType 42 = true := by kernel_rfl
  have h2 : (Value.agg #[.int .i64 s, .int .u32 f, .int .u32 k, .int .u32 r]).formed Tryd.prog 42 = true := by
    have hc : Tryd.prog.cellsOf 42 = 4 := by kernel_rfl
    simp [Value.formed, Tryd.underlying42, hc]
  have hc : Tryd.prog.cellsOf 42 = 4 := by kernel_rfl
  have hci : Tryd.prog.cellsOf 3 = 1 := by kernel_rfl
  have hcu : Tryd.prog.cellsOf 28 = 1 := by kernel_rfl
  have ht : 42 < Tryd.prog.types.size := rowTold
  have e : Tryd.prog.types.size + 1 = (Tryd.prog.types.size - 1) + 1 + 1 := by generalize Tryd.prog.types.size = q at ht; omega
  have h3 : ∀ d, Tryd.prog.keyLits (d + 1 + 1) 42 [.int .i64 s, .int .u32 f, .int .u32 k, .int .u32 r] = some [.int .i64 s, .int .u32 f, .int .u32 k, .int .u32 r] := fun d => by
    simp [Program.keyLits, Tryd.underlying42, Tryd.underlying28, Tryd.underlying3, hc, hci, hcu, ws, wu f hf, wu k hk, wu r hr]
  unfold keyOf
  rw [Tryd.underlying42]
  simp only [h1, h2, Bool.and_self, if_true]
  show Option.map _ (Tryd.prog.keyLits (Tryd.prog.types.size + 1) 42 [.int .i64 s, .int .u32 f, .int .u32 k, .int .u32 r]) = _
  rw [e, h3]
  rfl
def rowKey (n : Nat) : Lit := tKey (opS n) (opF n) (opK n) (opR n)
theorem op_bd {n : Nat} (hn : n < 43) : opS n < 8 ∧ opF n < 128 ∧ opK n < 8 ∧ opR n < 16384 := all43 (p := fun n => opS n < 8 ∧ opF n < 128 ∧ opK n < 8 ∧ opR n < 16384) (by decide +kernel) hn
theorem rowKey_of {n : Nat} (hn : n < 43) : keyOf Tryd.prog 42 (.agg #[.int .i64 (opS n), .int .u32 (opF n), .int .u32 (opK n), .int .u32 (opR n)]) = some (rowKey n) := by
  obtain ⟨h0, h1, h2, h3⟩ := op_bd hn
  exact tKey_of _ _ _ _ ⟨by omega, by omega⟩ ⟨by omega, by omega⟩ ⟨by omega, by omega⟩ ⟨by omega, by omega⟩
theorem tKey_inj {s f k r s' f' k' r' : Int} (hs : IsI s) (hf : IsT f) (hk : IsT k) (hr : IsT r) (hs' : IsI s') (hf' : IsT f') (hk' : IsT k') (hr' : IsT r') (h : tKey s f k r = tKey s' f' k' r') : s = s' ∧ f = f' ∧ k = k' ∧ r = r' := by
  have a := tKey_of s f k r hs hf hk hr
  have b := tKey_of s' f' k' r' hs' hf' hk' hr'
  rw [h] at a
  have := lawTold.inj a b
  simpa using this
theorem isKey_tKey (s f k r : Int) : WideAt.IsKeyLit (tKey s f k r) := trivial
theorem row_inj {m n : Nat} (hm : m < 43) (hn : n < 43) (h : opS m = opS n ∧ opF m = opF n ∧ opK m = opK n ∧ opR m = opR n) : m = n :=
  all43 (p := fun m => ∀ n, n < 43 → (opS m = opS n ∧ opF m = opF n ∧ opK m = opK n ∧ opR m = opR n) → m = n) (by decide +kernel) hm n hn h
theorem rowKey_inj {m n : Nat} (hm : m < 43) (hn : n < 43) (h : rowKey m = rowKey n) : m = n := by
  obtain ⟨a0, a1, a2, a3⟩ := op_bd hm
  obtain ⟨b0, b1, b2, b3⟩ := op_bd hn
  have := tKey_inj ⟨by omega, by omega⟩ ⟨by omega, by omega⟩ ⟨by omega, by omega⟩ ⟨by omega, by omega⟩ ⟨by omega, by omega⟩ ⟨by omega, by omega⟩ ⟨by omega, by omega⟩ ⟨by omega, by omega⟩ h
  exact row_inj hm hn (by omega)

/-- the map of the first k operations whose first field is f -/
def mapD (f : Int) : Nat → DataW Unit
  | 0 => .map []
  | k + 1 => if (opF k : Int) = f then (mapD f k).put (rowKey k) (.lit (.int .i64 k)) else mapD f k
theorem isKey_row (n : Nat) : WideAt.IsKeyLit (rowKey n) := trivial
theorem mapD_is (f : Int) : ∀ k, IsMap (mapD f k)
  | 0 => isMap_empty
  | k + 1 => by
    unfold mapD
    split
    · exact (mapD_is f k).put _ _
    · exact mapD_is f k
theorem mapD_has (f : Int) (kl : Lit) : ∀ k, Maps.has (mapD f k) kl = true ↔ ∃ n, n < k ∧ (opF n : Int) = f ∧ rowKey n = kl
  | 0 => ⟨fun h => by simp [mapD, Maps.has_eq] at h, fun ⟨n, h, _⟩ => by omega⟩
  | k + 1 => by
    have ih := mapD_has f kl k
    unfold mapD
    by_cases hf : (opF k : Int) = f
    · rw [if_pos hf]
      by_cases he : kl = rowKey k
      · subst he
        rw [has_put_same (mapD_is f k) (isKey_row _)]
        exact ⟨fun _ => ⟨k, by omega, hf, rfl⟩, fun _ => rfl⟩
      · rw [has_put_other he, ih]
        constructor
        · rintro ⟨n, h1, h2, h3⟩; exact ⟨n, by omega, h2, h3⟩
        · rintro ⟨n, h1, h2, h3⟩
          refine ⟨n, ?_, h2, h3⟩
          rcases Nat.lt_or_ge n k with h | h
          · exact h
          · exact absurd (by rw [← h3, show n = k by omega]) he
    · rw [if_neg hf, ih]
      constructor
      · rintro ⟨n, h1, h2, h3⟩; exact ⟨n, by omega, h2, h3⟩
      · rintro ⟨n, h1, h2, h3⟩
        refine ⟨n, ?_, h2, h3⟩
        rcases Nat.lt_or_ge n k with h | h
        · exact h
        · exact absurd h2 (by rw [show n = k by omega]; exact hf)
theorem mapD_at (f : Int) (z : DataW Unit) {n : Nat} (hn : n < 43) (hf : (opF n : Int) = f) : ∀ k, n < k → k ≤ 43 → (mapD f k).atKey (rowKey n) z = .lit (.int .i64 n)
  | k + 1, h, hk => by
    unfold mapD
    by_cases e : n = k
    · subst e
      rw [if_pos hf, atKey_put_same (mapD_is f n) (isKey_row _)]
    · have ih := mapD_at f z hn hf k (by omega) (by omega)
      split
      · rw [atKey_put_other (fun h => e (rowKey_inj hn (by omega) h)), ih]
      · exact ih
end Go.Proofs.YtepkochgibjflaaDoor
