/- Layer 6: objects as data, their bytes, and what bytes are read as: plain mathematics.
   Layer 6: which objects may be: plain mathematics.
   Layer 6: what the map of things seen knows, object by object: plain mathematics. -/
import Derived.Test.YtjngkifoaljmaaaGreatDoorObjA
import Derived.Test.YtjngkifoaljmaaaGreatDoorInsB
namespace Go.Proofs.YtjngkifoaljmaaaGreatDoor
set_option maxRecDepth 100000
open Go.RowKit
set_option linter.unusedVariables false
abbrev SymD := ByteArray × Bool × Int × Bool
abbrev RelD := Int × Int × ByteArray × Int
abbrev EntD := ByteArray × List Int
structure ObjD where
  text : List Int
  data : List Int
  syms : List SymD
  rels : List RelD
  ents : List EntD
/-! ### bytes and names -/
def toBA (l : List Int) : ByteArray := ⟨(l.map (fun x => UInt8.ofNat x.toNat)).toArray⟩
theorem sB_toBA {l : List Int} (h : AllB l) : sB (toBA l) = l := by
  unfold sB toBA
  simp only [List.map_map]
  conv => rhs; rw [← List.map_id l]
  apply List.map_congr_left
  intro x hx
  have := h x hx
  simp
  omega
theorem sB_inj {s t : ByteArray} (h : sB s = sB t) : s = t := by
  unfold sB at h
  have h2 : s.data.toList = t.data.toList := by
    have hinj : Function.Injective (fun b : UInt8 => (b.toNat : Int)) := fun a b e => UInt8.toNat_inj.1 (Int.ofNat.inj e)
    exact List.map_inj_right (fun a b e => hinj e) |>.1 h
  exact ByteArray.ext (Array.ext' h2)
theorem toBA_sB (s : ByteArray) : toBA (sB s) = s := sB_inj (sB_toBA (sB_all s))
theorem toBA_size (l : List Int) : (toBA l).size = l.length := by simp [toBA, ByteArray.size]
/-! ### numbers -/
def rdN (n : Nat) (l : List Int) : Option (Int × List Int) := if n ≤ l.length then some (wordI (l.take n), l.drop n) else none
theorem restI_small {v : Int} {n : Nat} (h0 : 0 ≤ v) (h1 : v < 256 ^ n) : restI v n = 0 := by
  obtain ⟨v, rfl⟩ := Int.eq_ofNat_of_zero_le h0
  unfold restI
  have h2 : v < 256 ^ n := by
    have e : ((256 : Int) ^ n) = ((256 ^ n : Nat) : Int) := by simp
    rw [e] at h1; omega
  rw [show ((v : Nat) : Int).toNat = v from rfl, Nat.div_eq_of_lt h2]; rfl
theorem word_bytes {v : Int} {n : Nat} (hu : IsU v) (h1 : v < 256 ^ n) : wordI (bytesL v n) = v := by
  have h := restI_word v hu n
  rw [restI_small hu.1 h1, Int.mul_zero, Int.add_zero] at h
  exact h
theorem rdN_put {v : Int} {n : Nat} (hu : IsU v) (h1 : v < 256 ^ n) (r : List Int) : rdN n (bytesL v n ++ r) = some (v, r) := by
  have hl := bytesL_length v n
  unfold rdN
  rw [if_pos (by rw [List.length_append, hl]; omega)]
  rw [List.take_left' hl, List.drop_left' hl, word_bytes hu h1]
theorem rdN_back {n : Nat} {l r : List Int} {v : Int} (hn : n ≤ 8) (ha : AllB l) (h : rdN n l = some (v, r)) : bytesL v n ++ r = l ∧ AllB r ∧ IsU v ∧ v < 256 ^ n ∧ n ≤ l.length ∧ v = wordI (l.take n) ∧ r = l.drop n := by
  unfold rdN at h
  split at h
  next hle =>
    simp only [Option.some.injEq, Prod.mk.injEq] at h
    obtain ⟨rfl, rfl⟩ := h
    have hl : (l.take n).length = n := by simp; omega
    have hb := bytes_of_word (ha.take n) (by omega)
    rw [hl] at hb
    have hw := wordI_bd (ha.take n)
    rw [hl] at hw
    exact ⟨by rw [hb, List.take_append_drop], ha.drop n, isU_word (ha.take n) (by omega), hw.2, hle, rfl, rfl⟩
  next => cases h
theorem rdN_more {n : Nat} {l r m : List Int} {v : Int} (h : rdN n l = some (v, r)) : rdN n (l ++ m) = some (v, r ++ m) := by
  unfold rdN at h ⊢
  split at h
  next hle =>
    simp only [Option.some.injEq, Prod.mk.injEq] at h
    obtain ⟨rfl, rfl⟩ := h
    rw [if_pos (by rw [List.length_append]; omega), List.take_append_of_le_length hle, List.drop_append_of_le_length hle]
  next => cases h
/-! ### one reader after the other -/
abbrev Rd (α : Type) := List Int → Option (α × List Int)
def rdBind {α β : Type} (f : Rd α) (g : α → Rd β) : Rd β := fun l => match f l with
  | some (x, r) => g x r
  | none => none
def rdRet {α : Type} (x : α) : Rd α := fun l => some (x, l)
/-- what is read stays so, with more behind -/
def More {α : Type} (f : Rd α) : Prop := ∀ l r m x, f l = some (x, r) → f (l ++ m) = some (x, r ++ m)
/-- what is read is what is written so -/
def Back {α : Type} (f : Rd α) (e : α → List Int) (W : α → Prop) : Prop := ∀ l r x, AllB l → f l = some (x, r) → e x ++ r = l ∧ AllB r ∧ W x
theorem More.bind {α β : Type} {f : Rd α} {g : α → Rd β} (hf : More f) (hg : ∀ x, More (g x)) : More (rdBind f g) := by
  intro l r m x h
  unfold rdBind at h ⊢
  cases hfl : f l with
  | none => rw [hfl] at h; cases h
  | some p =>
    obtain ⟨y, q⟩ := p
    rw [hfl] at h
    rw [hf l q m y hfl]
    exact hg y q r m x h
theorem More.ret {α : Type} (x : α) : More (rdRet x) := by
  intro l r m y h
  cases h; rfl
theorem More.num (n : Nat) : More (rdN n) := fun _ _ _ _ h => rdN_more h
theorem rdBind_some {α β : Type} {f : Rd α} {g : α → Rd β} {l r : List Int} {z : β} (h : rdBind f g l = some (z, r)) : ∃ x q, f l = some (x, q) ∧ g x q = some (z, r) := by
  unfold rdBind at h
  cases hfl : f l with
  | none => rw [hfl] at h; cases h
  | some p => obtain ⟨y, q⟩ := p; rw [hfl] at h; exact ⟨y, q, rfl, h⟩
theorem rdBind_at {α β : Type} {f : Rd α} {g : α → Rd β} {l q : List Int} {x : α} (h : f l = some (x, q)) : rdBind f g l = g x q := by
  unfold rdBind; rw [h]
theorem rdBind_no {α β : Type} {f : Rd α} {g : α → Rd β} {l : List Int} (h : f l = none) : rdBind f g l = none := by
  unfold rdBind; rw [h]
/-- so many bytes -/
def rdB (k : Nat) : Rd (List Int) := fun l => if k ≤ l.length then some (l.take k, l.drop k) else none
theorem More.bytes (k : Nat) : More (rdB k) := by
  intro l r m x h
  unfold rdB at h ⊢
  split at h
  next hle =>
    simp only [Option.some.injEq, Prod.mk.injEq] at h
    obtain ⟨rfl, rfl⟩ := h
    rw [if_pos (by rw [List.length_append]; omega), List.take_append_of_le_length hle, List.drop_append_of_le_length hle]
  next => cases h
def rdName : Rd ByteArray := rdBind (rdN 1) fun k => rdBind (rdB k.toNat) fun l => rdRet (toBA l)
theorem More.name : More rdName := More.bind (More.num 1) fun _ => More.bind (More.bytes _) fun _ => More.ret _
theorem rdName_put {s : ByteArray} (h : s.size ≤ 255) (r : List Int) : rdName (nameW s ++ r) = some (s, r) := by
  unfold rdName nameW
  rw [List.append_assoc, rdBind_at (rdN_put ⟨by omega, by omega⟩ (by omega) _)]
  have hl := sB_len s
  have : rdB (s.size : Int).toNat (sB s ++ r) = some (sB s, r) := by
    unfold rdB
    rw [show (s.size : Int).toNat = s.size from rfl, if_pos (by rw [List.length_append, hl]; omega), List.take_left' hl, List.drop_left' hl]
  rw [rdBind_at this, toBA_sB]; rfl
theorem rdName_back : Back rdName nameW (fun s => s.size ≤ 255) := by
  intro l r s ha h
  unfold rdName at h
  obtain ⟨k, q, h1, h2⟩ := rdBind_some h
  obtain ⟨x, q2, h3, h4⟩ := rdBind_some h2
  obtain ⟨e1, a1, u1, b1, _⟩ := rdN_back (by omega) ha h1
  unfold rdB at h3
  split at h3
  next hle =>
    simp only [Option.some.injEq, Prod.mk.injEq] at h3
    obtain ⟨rfl, rfl⟩ := h3
    unfold rdRet at h4
    simp only [Option.some.injEq, Prod.mk.injEq] at h4
    obtain ⟨rfl, rfl⟩ := h4
    have hs : (toBA (q.take k.toNat)).size = k.toNat := by rw [toBA_size]; simp; omega
    have hk : ((k.toNat : Nat) : Int) = k := Int.toNat_of_nonneg u1.1
    refine ⟨?_, a1.drop _, by show (toBA _).size ≤ 255; rw [hs]; omega⟩
    unfold nameW
    rw [hs, sB_toBA (a1.take _), hk, List.append_assoc, List.take_append_drop, e1]
  next => cases h3
/-! ### the parts of an object -/
def rdSym : Rd SymD := rdBind rdName fun s => rdBind (rdN 1) fun m => if m ≤ 3 then rdBind (rdN 4) fun o => rdRet (s, decide (m % 2 = 1), o, decide (m / 2 % 2 = 1)) else fun _ => none
theorem More.none {α : Type} : More (fun _ : List Int => (Option.none : Option (α × List Int))) := by intro l r m x h; cases h
theorem More.sym : More rdSym := by
  unfold rdSym
  refine More.bind More.name fun s => More.bind (More.num 1) fun m => ?_
  split
  · exact More.bind (More.num 4) fun _ => More.ret _
  · exact More.none
def symWt (s : SymD) : List Int := symW s.1 s.2.1 s.2.2.1 s.2.2.2
def relWt (s : RelD) : List Int := relW s.1 s.2.1 s.2.2.1 s.2.2.2
def entWt (s : EntD) : List Int := entryW s.1 s.2
theorem wrap_id {x : Int} (h : IsU x) : IntKind.u64.wrap x = x := by rw [IntKind.wrap_u64]; have := h.1; have := h.2; omega
theorem rdSym_put {s : SymD} (h : s.1.size ≤ 255) (h0 : 0 ≤ s.2.2.1) (h1 : s.2.2.1 < 4294967296) (r : List Int) : rdSym (symWt s ++ r) = some (s, r) := by
  obtain ⟨s, i, o, u⟩ := s
  simp only at h h0 h1
  unfold rdSym symWt symW
  simp only [List.append_assoc]
  rw [rdBind_at (rdName_put h _), wrap_id ⟨h0, by omega⟩]
  have hm : marksW i u ≤ 3 ∧ 0 ≤ marksW i u ∧ decide (marksW i u % 2 = 1) = i ∧ decide (marksW i u / 2 % 2 = 1) = u := by cases i <;> cases u <;> decide
  rw [rdBind_at (rdN_put (marksU i u) (by omega) _), if_pos hm.1, rdBind_at (rdN_put ⟨h0, by omega⟩ (by omega) _), hm.2.2.1, hm.2.2.2]; rfl
theorem marks_back {m : Int} (h0 : 0 ≤ m) (h1 : m ≤ 3) : marksW (decide (m % 2 = 1)) (decide (m / 2 % 2 = 1)) = m := by
  rcases (by omega : m = 0 ∨ m = 1 ∨ m = 2 ∨ m = 3) with rfl | rfl | rfl | rfl <;> decide
def SymF (s : SymD) : Prop := s.1.size ≤ 255 ∧ 0 ≤ s.2.2.1 ∧ s.2.2.1 < 4294967296
theorem rdSym_back : Back rdSym symWt SymF := by
  intro l r x ha h
  unfold rdSym at h
  obtain ⟨s, q, h1, h2⟩ := rdBind_some h
  obtain ⟨e1, a1, w1⟩ := rdName_back _ _ _ ha h1
  obtain ⟨m, q2, h3, h4⟩ := rdBind_some h2
  obtain ⟨e2, a2, u2, b2, _⟩ := rdN_back (by omega) a1 h3
  split at h4
  next hm =>
    obtain ⟨o, q3, h5, h6⟩ := rdBind_some h4
    obtain ⟨e3, a3, u3, b3, _⟩ := rdN_back (by omega) a2 h5
    unfold rdRet at h6
    simp only [Option.some.injEq, Prod.mk.injEq] at h6
    obtain ⟨rfl, rfl⟩ := h6
    refine ⟨?_, a3, w1, u3.1, by simpa using b3⟩
    unfold symWt symW
    simp only
    rw [marks_back u2.1 hm, wrap_id u3, List.append_assoc, List.append_assoc, e3, e2, e1]
  next => cases h4
/-- a number of 64 bits with signs -/
def sg64 (x : Int) : Int := wrap64 x
def rdRel : Rd RelD := rdBind (rdN 4) fun a => rdBind (rdN 1) fun k => rdBind rdName fun s => rdBind (rdN 8) fun d => rdRet (a, k, s, sg64 d)
theorem More.rel : More rdRel := More.bind (More.num 4) fun _ => More.bind (More.num 1) fun _ => More.bind More.name fun _ => More.bind (More.num 8) fun _ => More.ret _
def RelF (s : RelD) : Prop := (0 ≤ s.1 ∧ s.1 < 4294967296) ∧ (0 ≤ s.2.1 ∧ s.2.1 < 256) ∧ s.2.2.1.size ≤ 255 ∧ IsI s.2.2.2
theorem sg64_wrap {d : Int} (h : IsI d) : sg64 (IntKind.u64.wrap d) = d := by
  obtain ⟨h0, h1⟩ := h
  unfold sg64 wrap64
  rw [IntKind.wrap_u64]
  omega
theorem wrap_sg64 {d : Int} (h : IsU d) : IntKind.u64.wrap (sg64 d) = d := by
  obtain ⟨h0, h1⟩ := h
  unfold sg64 wrap64
  rw [IntKind.wrap_u64]
  omega
theorem sg64_I (d : Int) : IsI (sg64 d) := by unfold sg64 wrap64 IsI; omega
theorem rdRel_put {s : RelD} (h : RelF s) (r : List Int) : rdRel (relWt s ++ r) = some (s, r) := by
  obtain ⟨a, k, s, d⟩ := s
  obtain ⟨⟨a0, a1⟩, ⟨k0, k1⟩, hs, hd⟩ := h
  simp only at a0 a1 k0 k1 hs hd
  unfold rdRel relWt relW
  simp only [List.append_assoc]
  rw [wrap_id (x := a) ⟨a0, by omega⟩, wrap_id (x := k) ⟨k0, by omega⟩]
  rw [rdBind_at (rdN_put ⟨a0, by omega⟩ (by omega) _), rdBind_at (rdN_put ⟨k0, by omega⟩ (by omega) _), rdBind_at (rdName_put hs _), rdBind_at (rdN_put (wrU d) (by have := (wrU d).2; omega) _), sg64_wrap hd]; rfl
theorem rdRel_back : Back rdRel relWt RelF := by
  intro l r x ha h
  unfold rdRel at h
  obtain ⟨a, q1, h1, h⟩ := rdBind_some h
  obtain ⟨e1, a1, u1, b1, _⟩ := rdN_back (by omega) ha h1
  obtain ⟨k, q2, h2, h⟩ := rdBind_some h
  obtain ⟨e2, a2, u2, b2, _⟩ := rdN_back (by omega) a1 h2
  obtain ⟨s, q3, h3, h⟩ := rdBind_some h
  obtain ⟨e3, a3, w3⟩ := rdName_back _ _ _ a2 h3
  obtain ⟨d, q4, h4, h⟩ := rdBind_some h
  obtain ⟨e4, a4, u4, b4, _⟩ := rdN_back (by omega) a3 h4
  unfold rdRet at h
  simp only [Option.some.injEq, Prod.mk.injEq] at h
  obtain ⟨rfl, rfl⟩ := h
  refine ⟨?_, a4, ⟨u1.1, by simpa using b1⟩, ⟨u2.1, by simpa using b2⟩, w3, sg64_I d⟩
  unfold relWt relW
  simp only
  rw [wrap_id u1, wrap_id u2, wrap_sg64 u4]
  simp only [List.append_assoc]
  rw [e4, e3, e2, e1]
/-! ### lists -/
def rdL {α : Type} (f : Rd α) : Nat → Rd (List α)
  | 0 => rdRet []
  | n + 1 => rdBind f fun x => rdBind (rdL f n) fun l => rdRet (x :: l)
theorem More.list {α : Type} {f : Rd α} (h : More f) : ∀ n, More (rdL f n)
  | 0 => More.ret _
  | n + 1 => More.bind h fun _ => More.bind (More.list h n) fun _ => More.ret _
theorem rdL_put {α : Type} {f : Rd α} {e : α → List Int} : ∀ (xs : List α) (r : List Int), (∀ x ∈ xs, ∀ r, f (e x ++ r) = some (x, r)) → rdL f xs.length (xs.flatMap e ++ r) = some (xs, r)
  | [], r, _ => rfl
  | x :: xs, r, h => by
    simp only [List.length_cons, List.flatMap_cons, List.append_assoc, rdL]
    rw [rdBind_at (h x (by simp) _), rdBind_at (rdL_put xs r (fun y hy => h y (by simp [hy])))]; rfl
theorem rdL_back {α : Type} {f : Rd α} {e : α → List Int} {W : α → Prop} (hf : Back f e W) : ∀ n l r xs, AllB l → rdL f n l = some (xs, r) → xs.flatMap e ++ r = l ∧ AllB r ∧ xs.length = n ∧ ∀ x ∈ xs, W x
  | 0, l, r, xs, ha, h => by
    unfold rdL rdRet at h
    simp only [Option.some.injEq, Prod.mk.injEq] at h
    obtain ⟨rfl, rfl⟩ := h
    exact ⟨rfl, ha, rfl, fun x hx => by cases hx⟩
  | n + 1, l, r, xs, ha, h => by
    unfold rdL at h
    obtain ⟨x, q, h1, h⟩ := rdBind_some h
    obtain ⟨ys, q2, h2, h⟩ := rdBind_some h
    unfold rdRet at h
    simp only [Option.some.injEq, Prod.mk.injEq] at h
    obtain ⟨rfl, rfl⟩ := h
    obtain ⟨e1, a1, w1⟩ := hf _ _ _ ha h1
    obtain ⟨e2, a2, l2, w2⟩ := rdL_back hf n _ _ _ a1 h2
    refine ⟨by rw [List.flatMap_cons, List.append_assoc, e2, e1], a2, by simp [l2], fun y hy => ?_⟩
    rcases List.mem_cons.1 hy with rfl | hy
    · exact w1
    · exact w2 y hy
/-- one more is read -/
theorem rdL_snoc {α : Type} {f : Rd α} : ∀ (n : Nat) (l : List Int), rdL f (n + 1) l = rdBind (rdL f n) (fun xs => rdBind f fun x => rdRet (xs ++ [x])) l
  | 0, l => by
    simp only [rdL, rdBind, rdRet]
    cases f l with
    | none => rfl
    | some p => rfl
  | n + 1, l => by
    have ih := fun q => rdL_snoc (f := f) n q
    rw [rdL]
    simp only [rdBind, rdRet] at ih ⊢
    cases hf : f l with
    | none => simp [rdL, rdBind, hf]
    | some p =>
      obtain ⟨x, q⟩ := p
      simp only [rdL, rdBind, hf]
      have := ih q
      simp only [rdL, rdBind] at this
      rw [this]
      cases rdL f n q with
      | none => rfl
      | some p2 =>
        obtain ⟨ys, q2⟩ := p2
        simp only [rdRet]
        cases f q2 with
        | none => rfl
        | some p3 => rfl
def rdEnt : Rd EntD := rdBind rdName fun s => rdBind (rdN 1) fun k => rdBind (rdL (rdN 1) k.toNat) fun l => rdRet (s, l)
theorem More.ent : More rdEnt := More.bind More.name fun _ => More.bind (More.num 1) fun _ => More.bind (More.list (More.num 1) _) fun _ => More.ret _
def EntF (s : EntD) : Prop := s.1.size ≤ 255 ∧ s.2.length ≤ 255 ∧ ∀ z ∈ s.2, 0 ≤ z ∧ z < 256
theorem num1_put {z : Int} (h : 0 ≤ z ∧ z < 256) (r : List Int) : rdN 1 (bytesL (IntKind.u64.wrap z) 1 ++ r) = some (z, r) := by
  rw [wrap_id ⟨h.1, by omega⟩]
  exact rdN_put ⟨h.1, by omega⟩ (by omega) r
theorem num1_back : Back (rdN 1) (fun z => bytesL (IntKind.u64.wrap z) 1) (fun z => 0 ≤ z ∧ z < 256) := by
  intro l r z ha h
  obtain ⟨e1, a1, u1, b1, _⟩ := rdN_back (by omega) ha h
  exact ⟨by show bytesL (IntKind.u64.wrap z) 1 ++ r = l; rw [wrap_id u1]; exact e1, a1, u1.1, by simpa using b1⟩
theorem rdEnt_put {s : EntD} (h : EntF s) (r : List Int) : rdEnt (entWt s ++ r) = some (s, r) := by
  obtain ⟨s, zs⟩ := s
  obtain ⟨hs, hl, hz⟩ := h
  simp only at hs hl hz
  unfold rdEnt entWt entryW
  simp only [List.append_assoc]
  rw [rdBind_at (rdName_put hs _), rdBind_at (rdN_put ⟨by omega, by omega⟩ (by omega) _)]
  rw [show (zs.length : Int).toNat = zs.length from rfl]
  unfold paramW
  rw [rdBind_at (rdL_put zs r (fun x hx r => num1_put (hz x hx) r))]; rfl
theorem rdEnt_back : Back rdEnt entWt EntF := by
  intro l r x ha h
  unfold rdEnt at h
  obtain ⟨s, q1, h1, h⟩ := rdBind_some h
  obtain ⟨e1, a1, w1⟩ := rdName_back _ _ _ ha h1
  obtain ⟨k, q2, h2, h⟩ := rdBind_some h
  obtain ⟨e2, a2, u2, b2, _⟩ := rdN_back (by omega) a1 h2
  obtain ⟨zs, q3, h3, h⟩ := rdBind_some h
  obtain ⟨e3, a3, l3, w3⟩ := rdL_back num1_back _ _ _ _ a2 h3
  unfold rdRet at h
  simp only [Option.some.injEq, Prod.mk.injEq] at h
  obtain ⟨rfl, rfl⟩ := h
  refine ⟨?_, a3, w1, by simp only; omega, w3⟩
  unfold entWt entryW paramW
  simp only
  rw [l3, Int.toNat_of_nonneg u2.1]
  simp only [List.append_assoc]
  rw [e3, e2, e1]
/-! ### the object -/
def magicW : List Int := [79, 66, 74, 49]
def headW (d : ObjD) : List Int := bytesL d.text.length 2 ++ (bytesL d.data.length 2 ++ (bytesL d.syms.length 2 ++ (bytesL d.rels.length 2 ++ bytesL d.ents.length 2)))
def encB (d : ObjD) : List Int := magicW ++ (headW d ++ (d.text.flatMap (fun x => bytesL x 4) ++ (d.data.flatMap (fun x => bytesL x 8) ++ (d.syms.flatMap symWt ++ (d.rels.flatMap relWt ++ d.ents.flatMap entWt)))))
def rdObj : Rd ObjD := rdBind (rdB 4) fun m => if m = magicW then rdBind (rdL (rdN 2) 5) fun cs => rdBind (rdL (rdN 4) (nth cs 0).toNat) fun t => rdBind (rdL (rdN 8) (nth cs 1).toNat) fun dd => rdBind (rdL rdSym (nth cs 2).toNat) fun ss => rdBind (rdL rdRel (nth cs 3).toNat) fun rr => rdBind (rdL rdEnt (nth cs 4).toNat) fun ee => rdRet ⟨t, dd, ss, rr, ee⟩ else fun _ => none
theorem More.obj : More rdObj := by
  unfold rdObj
  refine More.bind (More.bytes 4) fun m => ?_
  split
  · exact More.bind (More.list (More.num 2) 5) fun _ => More.bind (More.list (More.num 4) _) fun _ => More.bind (More.list (More.num 8) _) fun _ => More.bind (More.list More.sym _) fun _ => More.bind (More.list More.rel _) fun _ => More.bind (More.list More.ent _) fun _ => More.ret _
  · exact More.none
/-- an object whose numbers fit their bytes -/
structure ObjF (d : ObjD) : Prop where
  ct : d.text.length < 65536
  cd : d.data.length < 65536
  cs : d.syms.length < 65536
  cr : d.rels.length < 65536
  ce : d.ents.length < 65536
  text : ∀ x ∈ d.text, 0 ≤ x ∧ x < 4294967296
  data : ∀ x ∈ d.data, IsU x
  syms : ∀ x ∈ d.syms, SymF x
  rels : ∀ x ∈ d.rels, RelF x
  ents : ∀ x ∈ d.ents, EntF x
theorem num_back {n : Nat} (hn : n ≤ 8) : Back (rdN n) (fun z => bytesL z n) (fun z => IsU z ∧ z < 256 ^ n) := by
  intro l r z ha h
  obtain ⟨e1, a1, u1, b1, _⟩ := rdN_back hn ha h
  exact ⟨e1, a1, u1, b1⟩
theorem five_put {a b c d e : Nat} (ha : a < 65536) (hb : b < 65536) (hc : c < 65536) (hd : d < 65536) (he : e < 65536) (r : List Int) : rdL (rdN 2) 5 (bytesL a 2 ++ (bytesL b 2 ++ (bytesL c 2 ++ (bytesL d 2 ++ (bytesL e 2 ++ r))))) = some ([(a : Int), b, c, d, e], r) := by
  simp only [rdL]
  rw [rdBind_at (rdN_put ⟨by omega, by omega⟩ (by omega) _)]
  rw [rdBind_at (x := [(b : Int), c, d, e]) (q := r)]
  · rfl
  rw [rdBind_at (rdN_put ⟨by omega, by omega⟩ (by omega) _)]
  rw [rdBind_at (x := [(c : Int), d, e]) (q := r)]
  · rfl
  rw [rdBind_at (rdN_put ⟨by omega, by omega⟩ (by omega) _)]
  rw [rdBind_at (x := [(d : Int), e]) (q := r)]
  · rfl
  rw [rdBind_at (rdN_put ⟨by omega, by omega⟩ (by omega) _)]
  rw [rdBind_at (x := [(e : Int)]) (q := r)]
  · rfl
  rw [rdBind_at (rdN_put ⟨by omega, by omega⟩ (by omega) _)]
  rfl
theorem rdObj_put {d : ObjD} (h : ObjF d) (r : List Int) : rdObj (encB d ++ r) = some (d, r) := by
  obtain ⟨t, dd, ss, rr, ee⟩ := d
  obtain ⟨ct, cd, cs, cr, ce, ft, fd, fs, fr, fe⟩ := h
  simp only at ct cd cs cr ce ft fd fs fr fe
  unfold rdObj encB headW
  simp only [List.append_assoc]
  have hm : ∀ q, rdB 4 (magicW ++ q) = some (magicW, q) := fun q => by unfold rdB magicW; simp
  rw [rdBind_at (hm _), if_pos rfl]
  rw [rdBind_at (five_put ct cd cs cr ce _)]
  rw [show (nth [(t.length : Int), dd.length, ss.length, rr.length, ee.length] 0).toNat = t.length from rfl, show (nth [(t.length : Int), dd.length, ss.length, rr.length, ee.length] 1).toNat = dd.length from rfl, show (nth [(t.length : Int), dd.length, ss.length, rr.length, ee.length] 2).toNat = ss.length from rfl, show (nth [(t.length : Int), dd.length, ss.length, rr.length, ee.length] 3).toNat = rr.length from rfl, show (nth [(t.length : Int), dd.length, ss.length, rr.length, ee.length] 4).toNat = ee.length from rfl]
  rw [rdBind_at (rdL_put t _ (fun x hx r => rdN_put ⟨(ft x hx).1, by have := (ft x hx).2; omega⟩ (by have := (ft x hx).2; omega) r))]
  rw [rdBind_at (rdL_put dd _ (fun x hx r => rdN_put (fd x hx) (by have := (fd x hx).2; omega) r))]
  rw [rdBind_at (rdL_put ss _ (fun x hx r => rdSym_put (fs x hx).1 (fs x hx).2.1 (fs x hx).2.2 r))]
  rw [rdBind_at (rdL_put rr _ (fun x hx r => rdRel_put (fr x hx) r))]
  rw [rdBind_at (rdL_put ee _ (fun x hx r => rdEnt_put (fe x hx) r))]; rfl
theorem five_cases {cs : List Int} (h : cs.length = 5) : cs = [nth cs 0, nth cs 1, nth cs 2, nth cs 3, nth cs 4] := by
  match cs, h with
  | [a, b, c, d, e], _ => rfl
theorem rdObj_back : Back rdObj encB ObjF := by
  intro l r x ha h
  unfold rdObj at h
  obtain ⟨m, q0, h0, h⟩ := rdBind_some h
  split at h
  next hm =>
    subst hm
    obtain ⟨cs, q1, h1, h⟩ := rdBind_some h
    obtain ⟨t, q2, h2, h⟩ := rdBind_some h
    obtain ⟨dd, q3, h3, h⟩ := rdBind_some h
    obtain ⟨ss, q4, h4, h⟩ := rdBind_some h
    obtain ⟨rr, q5, h5, h⟩ := rdBind_some h
    obtain ⟨ee, q6, h6, h⟩ := rdBind_some h
    unfold rdRet at h
    simp only [Option.some.injEq, Prod.mk.injEq] at h
    obtain ⟨rfl, rfl⟩ := h
    have e0 : magicW ++ q0 = l ∧ AllB q0 := by
      unfold rdB at h0
      split at h0
      next hle =>
        simp only [Option.some.injEq, Prod.mk.injEq] at h0
        obtain ⟨h01, rfl⟩ := h0
        rw [← h01]
        exact ⟨List.take_append_drop _ _, ha.drop _⟩
      next => cases h0
    obtain ⟨e1, a1, l1, w1⟩ := rdL_back (num_back (by omega)) _ _ _ _ e0.2 h1
    have hc := five_cases l1
    have b0 := w1 (nth cs 0) (by rw [hc]; simp [nth])
    have b1 := w1 (nth cs 1) (by rw [hc]; simp [nth])
    have b2 := w1 (nth cs 2) (by rw [hc]; simp [nth])
    have b3 := w1 (nth cs 3) (by rw [hc]; simp [nth])
    have b4 := w1 (nth cs 4) (by rw [hc]; simp [nth])
    have p0 := b0.1.1; have p1 := b1.1.1; have p2 := b2.1.1; have p3 := b3.1.1; have p4 := b4.1.1
    have s0 : nth cs 0 < 65536 := by simpa using b0.2
    have s1 : nth cs 1 < 65536 := by simpa using b1.2
    have s2 : nth cs 2 < 65536 := by simpa using b2.2
    have s3 : nth cs 3 < 65536 := by simpa using b3.2
    have s4 : nth cs 4 < 65536 := by simpa using b4.2
    clear b0 b1 b2 b3 b4
    obtain ⟨e2, a2, l2, w2⟩ := rdL_back (num_back (by omega)) _ _ _ _ a1 h2
    obtain ⟨e3, a3, l3, w3⟩ := rdL_back (num_back (by omega)) _ _ _ _ a2 h3
    obtain ⟨e4, a4, l4, w4⟩ := rdL_back rdSym_back _ _ _ _ a3 h4
    obtain ⟨e5, a5, l5, w5⟩ := rdL_back rdRel_back _ _ _ _ a4 h5
    obtain ⟨e6, a6, l6, w6⟩ := rdL_back rdEnt_back _ _ _ _ a5 h6
    refine ⟨?_, a6, ⟨by simp only; omega, by simp only; omega, by simp only; omega, by simp only; omega, by simp only; omega, fun x hx => ⟨(w2 x hx).1.1, by have := (w2 x hx).2; simpa using this⟩, fun x hx => (w3 x hx).1, w4, w5, w6⟩⟩
    have hh : headW ⟨t, dd, ss, rr, ee⟩ = cs.flatMap (fun z => bytesL z 2) := by
      rw [hc]
      unfold headW
      simp only [List.flatMap_cons, List.flatMap_nil, List.append_nil]
      rw [l2, l3, l4, l5, l6, Int.toNat_of_nonneg p0, Int.toNat_of_nonneg p1, Int.toNat_of_nonneg p2, Int.toNat_of_nonneg p3, Int.toNat_of_nonneg p4]
    unfold encB
    rw [hh]
    simp only [List.append_assoc]
    rw [e6, e5, e4, e3, e2, e1, e0.1]
  next => cases h
end Go.Proofs.YtjngkifoaljmaaaGreatDoor
namespace Go.Proofs.YtjngkifoaljmaaaGreatDoor
set_option maxRecDepth 100000
open Go.RowKit
set_option linter.unusedVariables false
/-- a word's operation -/
def matchB (v : Int) (n : Nat) : Bool := ((opF n : Int) == fld v 0 7) && ((opK n : Int) == tK v (opS n)) && ((opR n : Int) == tR v (opS n))
theorem matchB_iff {v : Int} {n : Nat} : matchB v n = true ↔ Match v n := by
  unfold matchB Match
  simp only [Bool.and_eq_true, beq_iff_eq, and_assoc]
def opOf (v : Int) : Option Nat := (List.range 43).find? (matchB v)
theorem opOf_some {v : Int} {n : Nat} (h : opOf v = some n) : n < 43 ∧ Match v n := by
  unfold opOf at h
  have h1 := List.find?_some h
  have h2 := List.mem_of_find?_eq_some h
  exact ⟨List.mem_range.1 h2, matchB_iff.1 h1⟩
theorem opOf_none {v : Int} (h : opOf v = none) : ∀ n, n < 43 → ¬ Match v n := by
  intro n hn hm
  unfold opOf at h
  rw [List.find?_eq_none] at h
  exact h n (List.mem_range.2 hn) (matchB_iff.2 hm)
def textB (l : List Int) : Bool := l.all (fun v => (opOf v).isSome)
def opsL (l : List Int) : List Int := l.map (fun v => (((opOf v).getD 0 : Nat) : Int))
theorem opsL_len (l : List Int) : (opsL l).length = l.length := by unfold opsL; rw [List.length_map]
def symAt (d : ObjD) (i : Nat) : SymD := d.syms.getD i (ByteArray.empty, false, 0, false)
def relAt (d : ObjD) (i : Nat) : RelD := d.rels.getD i (0, 0, ByteArray.empty, 0)
def entAt (d : ObjD) (i : Nat) : EntD := d.ents.getD i (ByteArray.empty, [])
def symOkB (d : ObjD) (i : Nat) : Bool :=
  nameB (sB (symAt d i).1) && ((List.range i).all fun j => !decide ((symAt d j).1 = (symAt d i).1)) && (symAt d i).2.2.1.tmod (unitI (symAt d i).2.1) == 0 && inB (symAt d i).2.2.1 (unitI (symAt d i).2.1 * (if (symAt d i).2.1 then d.data.length else d.text.length : Nat))
def relOkB (d : ObjD) (i : Nat) : Bool :=
  (relAt d i).1.tmod 4 == 0 && inB (relAt d i).1 (4 * (d.text.length : Int) - 1) && suitB (relAt d i).2.1 (nth (opsL d.text) ((relAt d i).1 / 4).toNat).toNat && ((List.range i).all fun j => !decide ((relAt d j).1 = (relAt d i).1)) && nameB (sB (relAt d i).2.2.1) && decide (-65536 ≤ (relAt d i).2.2.2) && decide ((relAt d i).2.2.2 ≤ 65536)
def entOkB (d : ObjD) (i : Nat) : Bool :=
  (d.syms.any fun t => decide (t.1 = (entAt d i).1) && !t.2.1 && t.2.2.2) && ((List.range i).all fun j => !decide ((entAt d j).1 = (entAt d i).1)) && parB (entAt d i).2
def symsB (d : ObjD) : Bool := (List.range d.syms.length).all (symOkB d)
def relsB (d : ObjD) : Bool := (List.range d.rels.length).all (relOkB d)
def entsB (d : ObjD) : Bool := (List.range d.ents.length).all (entOkB d)
def mayO (d : ObjD) : Bool := fewB d.text.length d.data.length d.syms.length d.rels.length d.ents.length && textB d.text && symsB d && relsB d && entsB d
theorem range_all_yes {n : Nat} {p : Nat → Bool} (h : ∀ i, i < n → p i = true) : (List.range n).all p = true := List.all_eq_true.2 fun i hi => h i (List.mem_range.1 hi)
theorem range_all_no {n : Nat} {p : Nat → Bool} {i : Nat} (hi : i < n) (h : p i = false) : (List.range n).all p = false := by
  rw [← Bool.not_eq_true, List.all_eq_true]
  intro h'
  have := h' i (List.mem_range.2 hi)
  rw [h] at this; cases this
theorem range_all_of {n : Nat} {p : Nat → Bool} (h : (List.range n).all p = true) {i : Nat} (hi : i < n) : p i = true := List.all_eq_true.1 h i (List.mem_range.2 hi)
theorem getD_mem {α : Type} {l : List α} {i : Nat} {z : α} (h : i < l.length) : l.getD i z ∈ l := by
  rw [List.getD_eq_getElem?_getD, List.getElem?_eq_getElem h]; exact List.getElem_mem h
theorem mem_getD {α : Type} {l : List α} {x z : α} (h : x ∈ l) : ∃ i, i < l.length ∧ l.getD i z = x := by
  obtain ⟨i, hi, e⟩ := List.mem_iff_getElem.1 h
  exact ⟨i, hi, by rw [List.getD_eq_getElem?_getD, List.getElem?_eq_getElem hi]; exact e⟩
/-- as the parts came in: numbers of their kinds, strings of a length that may be -/
structure ObjW (d : ObjD) : Prop where
  text : ∀ x ∈ d.text, IsW x
  data : ∀ x ∈ d.data, IsU x
  syms : ∀ s ∈ d.syms, s.1.size ≤ maxLen ∧ IsI s.2.2.1
  rels : ∀ s ∈ d.rels, IsI s.1 ∧ IsI s.2.1 ∧ s.2.2.1.size ≤ maxLen ∧ IsI s.2.2.2
  ents : ∀ s ∈ d.ents, s.1.size ≤ maxLen ∧ (∀ z ∈ s.2, IsI z) ∧ s.2.length ≤ maxLen
theorem nameB_24 {s : ByteArray} (h : nameB (sB s) = true) : s.size ≤ 24 := by
  rw [← sB_len]
  unfold nameB at h
  simp only [Bool.and_eq_true, decide_eq_true_eq] at h
  exact h.1.1.2
theorem suitB_kind {k : Int} {n : Nat} (h : suitB k n = true) : 0 ≤ k ∧ k ≤ 3 := by
  unfold suitB at h
  by_cases h0 : k = 0
  · omega
  by_cases h1 : k = 1
  · omega
  by_cases h2 : k = 2
  · omega
  by_cases h3 : k = 3
  · omega
  simp [h0, h1, h2, h3] at h
theorem few_of {a b c d e : Nat} (h : fewB a b c d e = true) : a ≤ 4096 ∧ b ≤ 1024 ∧ c ≤ 256 ∧ d ≤ 1024 ∧ e ≤ 64 := by
  unfold fewB at h
  simp only [Bool.and_eq_true, decide_eq_true_eq] at h
  exact ⟨h.1.1.1.1, h.1.1.1.2, h.1.1.2, h.1.2, h.2⟩
theorem inB_of {x m : Int} (h : inB x m = true) : 0 ≤ x ∧ x ≤ m := by
  unfold inB at h
  simp only [Bool.and_eq_true, decide_eq_true_eq] at h
  exact h
theorem parB_of {zs : List Int} (h : parB zs = true) : zs.length ≤ 6 ∧ ∀ z ∈ zs, 0 ≤ z ∧ z ≤ 64 := by
  unfold parB at h
  simp only [Bool.and_eq_true, decide_eq_true_eq, List.all_eq_true] at h
  exact ⟨h.1, fun z hz => inB_of (h.2 z hz)⟩
theorem symF_of {d : ObjD} (hf : d.text.length ≤ 4096 ∧ d.data.length ≤ 1024) {i : Nat} (h : symOkB d i = true) : SymF (symAt d i) := by
  unfold symOkB at h
  simp only [Bool.and_eq_true] at h
  have hn := nameB_24 h.1.1.1
  have hi := inB_of h.2
  refine ⟨by omega, hi.1, ?_⟩
  have h2 := hi.2
  unfold unitI at h2
  split at h2 <;> omega
theorem relF_of {d : ObjD} (hf : d.text.length ≤ 4096) {i : Nat} (h : relOkB d i = true) : RelF (relAt d i) := by
  unfold relOkB at h
  simp only [Bool.and_eq_true, decide_eq_true_eq] at h
  have hn := nameB_24 h.1.1.2
  have hi := inB_of h.1.1.1.1.1.2
  have hk := suitB_kind h.1.1.1.1.2
  exact ⟨⟨hi.1, by omega⟩, ⟨hk.1, by omega⟩, by omega, ⟨by omega, by omega⟩⟩
theorem entOk_name {d : ObjD} {i : Nat} (h : entOkB d i = true) : ∃ t ∈ d.syms, t.1 = (entAt d i).1 ∧ t.2.1 = false ∧ t.2.2.2 = true := by
  unfold entOkB at h
  simp only [Bool.and_eq_true, List.any_eq_true] at h
  obtain ⟨⟨⟨t, ht, h1, h2⟩, _⟩, _⟩ := h
  exact ⟨t, ht, by simpa using h1.1, by simpa using h1.2, h2⟩
theorem may_fits {d : ObjD} (hw : ObjW d) (h : mayO d = true) : ObjF d := by
  unfold mayO at h
  simp only [Bool.and_eq_true] at h
  obtain ⟨⟨⟨⟨hf, ht⟩, hs⟩, hr⟩, he⟩ := h
  obtain ⟨f1, f2, f3, f4, f5⟩ := few_of hf
  have hsy : ∀ x ∈ d.syms, SymF x ∧ nameB (sB x.1) = true := fun x hx => by
    obtain ⟨i, hi, rfl⟩ := mem_getD (z := (ByteArray.empty, false, 0, false)) hx
    have h := range_all_of hs hi
    refine ⟨symF_of ⟨f1, f2⟩ h, ?_⟩
    unfold symOkB at h
    simp only [Bool.and_eq_true] at h
    exact h.1.1.1
  refine ⟨by omega, by omega, by omega, by omega, by omega, hw.text, hw.data, fun x hx => (hsy x hx).1, fun x hx => ?_, fun x hx => ?_⟩
  · obtain ⟨i, hi, rfl⟩ := mem_getD (z := (0, 0, ByteArray.empty, 0)) hx
    exact relF_of f1 (range_all_of hr hi)
  · obtain ⟨i, hi, rfl⟩ := mem_getD (z := (ByteArray.empty, [])) hx
    have h := range_all_of he hi
    obtain ⟨t, ht, h1, _⟩ := entOk_name h
    have hn := nameB_24 (hsy t ht).2
    unfold entOkB at h
    simp only [Bool.and_eq_true] at h
    have hp := parB_of h.2
    unfold entAt at h1 hp
    refine ⟨by rw [← h1]; omega, by omega, fun z hz => ⟨(hp.2 z hz).1, by have := (hp.2 z hz).2; omega⟩⟩
/-! ### decoding -/
def decB (b : List Int) : Option ObjD := match rdObj b with
  | some (d, []) => if mayO d then some d else none
  | _ => none
theorem fits_W {d : ObjD} (h : ObjF d) : ObjW d := by
  obtain ⟨_, _, _, _, _, h1, h2, h3, h4, h5⟩ := h
  have hm : (255 : Nat) ≤ maxLen := by unfold maxLen; omega
  exact ⟨h1, h2, fun s hs => ⟨by have := (h3 s hs).1; omega, ⟨by have := (h3 s hs).2.1; omega, by have := (h3 s hs).2.2; omega⟩⟩,
    fun s hs => ⟨⟨by have := (h4 s hs).1; omega, by have := (h4 s hs).1; omega⟩, ⟨by have := (h4 s hs).2.1; omega, by have := (h4 s hs).2.1; omega⟩, by have := (h4 s hs).2.2.1; omega, (h4 s hs).2.2.2⟩,
    fun s hs => ⟨by have := (h5 s hs).1; omega, fun z hz => ⟨by have := (h5 s hs).2.2 z hz; omega, by have := (h5 s hs).2.2 z hz; omega⟩, by have := (h5 s hs).2.1; omega⟩⟩
theorem decB_put {d : ObjD} (hw : ObjW d) (h : mayO d = true) : decB (encB d) = some d := by
  have h1 := rdObj_put (may_fits hw h) []
  rw [List.append_nil] at h1
  unfold decB
  rw [h1]
  simp only [h, if_true]
theorem decB_parts {b : List Int} {d : ObjD} (h : decB b = some d) : rdObj b = some (d, []) ∧ mayO d = true := by
  unfold decB at h
  cases hr : rdObj b with
  | none => rw [hr] at h; cases h
  | some p =>
    obtain ⟨e, r⟩ := p
    rw [hr] at h
    cases r with
    | cons x r => cases h
    | nil =>
      simp only at h
      split at h
      next hm => cases h; exact ⟨rfl, hm⟩
      next => cases h
theorem decB_back {b : List Int} {d : ObjD} (ha : AllB b) (h : decB b = some d) : encB d = b ∧ mayO d = true ∧ ObjF d := by
  obtain ⟨h1, h2⟩ := decB_parts h
  obtain ⟨e, _, w⟩ := rdObj_back _ _ _ ha h1
  rw [List.append_nil] at e
  exact ⟨e, h2, w⟩
theorem enc_inj {a b : ObjD} (ha : ObjW a) (hb : ObjW b) (ma : mayO a = true) (mb : mayO b = true) (h : encB a = encB b) : a = b := by
  have h1 := decB_put ha ma
  rw [h, decB_put hb mb] at h1
  cases h1; rfl
/-- no beginning is an object -/
theorem decB_cut {d : ObjD} (hw : ObjW d) (h : mayO d = true) {k : Nat} (hk : k < (encB d).length) : decB ((encB d).take k) = none := by
  cases hd : decB ((encB d).take k) with
  | none => rfl
  | some e =>
    have h1 := (decB_parts hd).1
    have h2 := More.obj _ _ ((encB d).drop k) _ h1
    rw [List.take_append_drop] at h2
    have h3 := rdObj_put (may_fits hw h) []
    rw [List.append_nil, h2] at h3
    simp only [Option.some.injEq, Prod.mk.injEq, List.nil_append] at h3
    have := congrArg List.length h3.2
    simp at this
    omega
theorem decB_long {d : ObjD} (hw : ObjW d) (h : mayO d = true) (x : Int) : decB (encB d ++ [x]) = none := by
  have h3 := rdObj_put (may_fits hw h) [x]
  unfold decB
  rw [h3]
end Go.Proofs.YtjngkifoaljmaaaGreatDoor
namespace Go.Proofs.YtjngkifoaljmaaaGreatDoor
set_option maxRecDepth 100000
open Go.RowKit
set_option linter.unusedVariables false
structure SeenS (d : ObjD) (M : Th → Option Int) (ks kr ke : Nat) : Prop where
  sy : ∀ s, (M (0, s, 0) = none ↔ ∀ j, j < ks → (symAt d j).1 ≠ s)
  syI : ∀ s c, M (0, s, 0) = some c → ∃ j : Nat, j < ks ∧ c = j ∧ (symAt d j).1 = s
  re : ∀ a, (M (1, ⟨#[]⟩, a) = none ↔ ∀ j, j < kr → (relAt d j).1 ≠ a)
  en : ∀ s, (M (2, s, 0) = none ↔ ∀ j, j < ke → (entAt d j).1 ≠ s)
/-- one thing more -/
def putM (M : Th → Option Int) (t : Th) (i : Int) : Th → Option Int := fun x => if x = t then some i else M x
theorem SeenS.start (d : ObjD) : SeenS d (fun _ => none) 0 0 0 :=
  ⟨fun s => ⟨fun _ j hj => by omega, fun _ => rfl⟩, fun s c h => (nomatch h), fun a => ⟨fun _ j hj => by omega, fun _ => rfl⟩, fun s => ⟨fun _ j hj => by omega, fun _ => rfl⟩⟩
theorem putM_same (M : Th → Option Int) (t : Th) (i : Int) : putM M t i t = some i := by unfold putM; rw [if_pos rfl]
theorem putM_other (M : Th → Option Int) {t x : Th} (i : Int) (h : x ≠ t) : putM M t i x = M x := by unfold putM; rw [if_neg h]
theorem succ_iff {n : Nat} {p : Nat → Prop} : (∀ j, j < n + 1 → p j) ↔ (∀ j, j < n → p j) ∧ p n :=
  ⟨fun h => ⟨fun j hj => h j (by omega), h n (by omega)⟩, fun h j hj => by
    by_cases e : j = n
    · subst e; exact h.2
    · exact h.1 j (by omega)⟩
section
variable {d : ObjD} {M : Th → Option Int} {ks kr ke : Nat}
theorem SeenS.sym (h : SeenS d M ks kr ke) : SeenS d (putM M (0, (symAt d ks).1, 0) ks) (ks + 1) kr ke := by
  refine ⟨fun s => ?_, fun s c hc => ?_, fun a => ?_, fun s => ?_⟩
  · rw [succ_iff]
    by_cases e : s = (symAt d ks).1
    · subst e; rw [putM_same]; exact ⟨fun h => (by cases h), fun h => absurd rfl h.2⟩
    · rw [putM_other _ _ (by intro h; cases h; exact e rfl), h.sy]; exact ⟨fun h => ⟨h, fun h => e h.symm⟩, fun h => h.1⟩
  · by_cases e : s = (symAt d ks).1
    · subst e; rw [putM_same] at hc; cases hc; exact ⟨ks, by omega, rfl, rfl⟩
    · rw [putM_other _ _ (by intro h; cases h; exact e rfl)] at hc
      obtain ⟨j, h1, h2⟩ := h.syI s c hc
      exact ⟨j, by omega, h2⟩
  · rw [putM_other _ _ (by intro h; cases h), h.re]
  · rw [putM_other _ _ (by intro h; cases h), h.en]
theorem SeenS.rel (h : SeenS d M ks kr ke) (i : Int) : SeenS d (putM M (1, ⟨#[]⟩, (relAt d kr).1) i) ks (kr + 1) ke := by
  refine ⟨fun s => ?_, fun s c hc => ?_, fun a => ?_, fun s => ?_⟩
  · rw [putM_other _ _ (by intro h; cases h), h.sy]
  · rw [putM_other _ _ (by intro h; cases h)] at hc; exact h.syI s c hc
  · rw [succ_iff]
    by_cases e : a = (relAt d kr).1
    · subst e; rw [putM_same]; exact ⟨fun h => (by cases h), fun h => absurd rfl h.2⟩
    · rw [putM_other _ _ (by intro h; cases h; exact e rfl), h.re]; exact ⟨fun h => ⟨h, fun h => e h.symm⟩, fun h => h.1⟩
  · rw [putM_other _ _ (by intro h; cases h), h.en]
theorem SeenS.ent (h : SeenS d M ks kr ke) (i : Int) : SeenS d (putM M (2, (entAt d ke).1, 0) i) ks kr (ke + 1) := by
  refine ⟨fun s => ?_, fun s c hc => ?_, fun a => ?_, fun s => ?_⟩
  · rw [putM_other _ _ (by intro h; cases h), h.sy]
  · rw [putM_other _ _ (by intro h; cases h)] at hc; exact h.syI s c hc
  · rw [putM_other _ _ (by intro h; cases h), h.re]
  · rw [succ_iff]
    by_cases e : s = (entAt d ke).1
    · subst e; rw [putM_same]; exact ⟨fun h => (by cases h), fun h => absurd rfl h.2⟩
    · rw [putM_other _ _ (by intro h; cases h; exact e rfl), h.en]; exact ⟨fun h => ⟨h, fun h => e h.symm⟩, fun h => h.1⟩
theorem none_all {o : Option Int} {n : Nat} {p : Nat → Prop} [DecidablePred p] (h : o = none ↔ ∀ j, j < n → ¬ p j) : o.isNone = ((List.range n).all fun j => !decide (p j)) := by
  rw [Bool.eq_iff_iff, List.all_eq_true, Option.isNone_iff_eq_none, h]
  exact ⟨fun h j hj => by simpa using h j (List.mem_range.1 hj), fun h j hj => by simpa using h j (List.mem_range.2 hj)⟩
theorem SeenS.symB (h : SeenS d M ks kr ke) : Proofs.YtjngkifoaljmaaaGreatDoor.symB M d.text.length d.data.length (symAt d ks).1 (symAt d ks).2.1 (symAt d ks).2.2.1 = symOkB d ks := by
  unfold Proofs.YtjngkifoaljmaaaGreatDoor.symB symOkB
  rw [none_all (h.sy _)]
def relB (M : Th → Option Int) (ops : List Int) (r : RelD) : Bool :=
  r.1.tmod 4 == 0 && inB r.1 (4 * (ops.length : Int) - 1) && suitB r.2.1 (nth ops (r.1 / 4).toNat).toNat && (M (1, ⟨#[]⟩, r.1)).isNone && nameB (sB r.2.2.1) && decide (-65536 ≤ r.2.2.2) && decide (r.2.2.2 ≤ 65536)
theorem SeenS.relB (h : SeenS d M ks kr ke) : Proofs.YtjngkifoaljmaaaGreatDoor.relB M (opsL d.text) (relAt d kr) = relOkB d kr := by
  unfold Proofs.YtjngkifoaljmaaaGreatDoor.relB relOkB
  rw [none_all (h.re _), opsL_len]
/-- the looker's entry -/
def entB (M : Th → Option Int) (syms : List SymD) (e : EntD) : Bool :=
  match M (0, e.1, 0) with
  | none => false
  | some c => !(syms.getD c.toNat (ByteArray.empty, false, 0, false)).2.1 && (syms.getD c.toNat (ByteArray.empty, false, 0, false)).2.2.2 && (M (2, e.1, 0)).isNone && parB e.2
theorem names_apart (hs : symsB d = true) {i j : Nat} (hi : i < d.syms.length) (hj : j < d.syms.length) (h : (symAt d i).1 = (symAt d j).1) : i = j := by
  have key : ∀ {a b : Nat}, b < d.syms.length → a < b → (symAt d a).1 ≠ (symAt d b).1 := by
    intro a b hb hab e
    have h1 := range_all_of hs hb
    unfold symOkB at h1
    simp only [Bool.and_eq_true] at h1
    have h2 := range_all_of h1.1.1.2 hab
    simp [e] at h2
  rcases Nat.lt_trichotomy i j with h1 | h1 | h1
  · exact absurd h (key hj h1)
  · exact h1
  · exact absurd h.symm (key hi h1)
theorem SeenS.entB (hs : symsB d = true) (h : SeenS d M d.syms.length kr ke) : Proofs.YtjngkifoaljmaaaGreatDoor.entB M d.syms (entAt d ke) = entOkB d ke := by
  unfold Proofs.YtjngkifoaljmaaaGreatDoor.entB entOkB
  cases hM : M (0, (entAt d ke).1, 0) with
  | none =>
    have h1 := (h.sy _).1 hM
    have : (d.syms.any fun t => decide (t.1 = (entAt d ke).1) && !t.2.1 && t.2.2.2) = false := by
      rw [List.any_eq_false]
      intro t ht
      obtain ⟨j, hj, rfl⟩ := mem_getD (z := (ByteArray.empty, false, 0, false)) ht
      have := h1 j hj
      unfold symAt at this
      simp only [decide_eq_false this, Bool.false_and]
      exact Bool.false_ne_true
    rw [this]; rfl
  | some c =>
    obtain ⟨j, hj, rfl, hn⟩ := h.syI _ _ hM
    have ha : (d.syms.any fun t => decide (t.1 = (entAt d ke).1) && !t.2.1 && t.2.2.2) = (!(symAt d j).2.1 && (symAt d j).2.2.2) := by
      rw [Bool.eq_iff_iff, List.any_eq_true]
      constructor
      · rintro ⟨t, ht, hp⟩
        obtain ⟨i, hi, rfl⟩ := mem_getD (z := (ByteArray.empty, false, 0, false)) ht
        simp only [Bool.and_eq_true, decide_eq_true_eq] at hp
        have := names_apart hs hi hj (by rw [hn]; exact hp.1.1)
        subst this
        unfold symAt
        rw [hp.1.2, hp.2]; rfl
      · intro hp
        simp only [Bool.and_eq_true] at hp
        exact ⟨symAt d j, getD_mem hj, by simp [hn, hp.1, hp.2]⟩
    simp only [Int.toNat_natCast]
    rw [ha, none_all (h.en _)]
    rfl
end
end Go.Proofs.YtjngkifoaljmaaaGreatDoor
