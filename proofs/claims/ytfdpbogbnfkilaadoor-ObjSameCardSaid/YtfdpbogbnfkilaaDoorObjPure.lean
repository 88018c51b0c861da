/- Layer 6: objects as data, their bytes, and what bytes are read as: plain mathematics. -/
import Derived.Test.YtfdpbogbnfkilaaDoorObjMay
import Derived.Test.YtfdpbogbnfkilaaDoorObjSuits
import Derived.Test.YtfdpbogbnfkilaaDoorInsB
namespace Go.Proofs.YtfdpbogbnfkilaaDoor
set_option maxRecDepth 100000
open Go.RowKit
set_option linter.unusedVariables false
abbrev SymD := ByteArray × Bool × Int × Bool
abbrev RelD := Int × Int × ByteArray × Int
abbrev EntD := ByteArray × List Int
structure ObjD where
  text : List Int
  data : List Int
  syms : List SymD
  rels : List RelD
  ents : List EntD
/-! ### bytes and names -/
def toBA (l : List Int) : ByteArray := ⟨(l.map (fun x => UInt8.ofNat x.toNat)).toArray⟩
theorem sB_toBA {l : List Int} (h : AllB l) : sB (toBA l) = l := by
  unfold sB toBA
  simp only [List.map_map]
  conv => rhs; rw [← List.map_id l]
  apply List.map_congr_left
  intro x hx
  have := h x hx
  simp
  omega
theorem sB_inj {s t : ByteArray} (h : sB s = sB t) : s = t := by
  unfold sB at h
  have h2 : s.data.toList = t.data.toList := by
    have hinj : Function.Injective (fun b : UInt8 => (b.toNat : Int)) := fun a b e => UInt8.toNat_inj.1 (Int.ofNat.inj e)
    exact List.map_inj_right (fun a b e => hinj e) |>.1 h
  exact ByteArray.ext (Array.ext' h2)
theorem toBA_sB (s : ByteArray) : toBA (sB s) = s := sB_inj (sB_toBA (sB_all s))
theorem toBA_size (l : List Int) : (toBA l).size = l.length := by simp [toBA, ByteArray.size]
/-! ### numbers -/
def rdN (n : Nat) (l : List Int) : Option (Int × List Int) := if n ≤ l.length then some (wordI (l.take n), l.drop n) else none
theorem restI_small {v : Int} {n : Nat} (h0 : 0 ≤ v) (h1 : v < 256 ^ n) : restI v n = 0 := by
  obtain ⟨v, rfl⟩ := Int.eq_ofNat_of_zero_le h0
  unfold restI
  have h2 : v < 256 ^ n := by
    have e : ((256 : Int) ^ n) = ((256 ^ n : Nat) : Int) := by simp
    rw [e] at h1; omega
  rw [show ((v : Nat) : Int).toNat = v from rfl, Nat.div_eq_of_lt h2]; rfl
theorem word_bytes {v : Int} {n : Nat} (hu : IsU v) (h1 : v < 256 ^ n) : wordI (bytesL v n) = v := by
  have h := restI_word v hu n
  rw [restI_small hu.1 h1, Int.mul_zero, Int.add_zero] at h
  exact h
theorem rdN_put {v : Int} {n : Nat} (hu : IsU v) (h1 : v < 256 ^ n) (r : List Int) : rdN n (bytesL v n ++ r) = some (v, r) := by
  have hl := bytesL_length v n
  unfold rdN
  rw [if_pos (by rw [List.length_append, hl]; omega)]
  rw [List.take_left' hl, List.drop_left' hl, word_bytes hu h1]
theorem rdN_back {n : Nat} {l r : List Int} {v : Int} (hn : n ≤ 8) (ha : AllB l) (h : rdN n l = some (v, r)) : bytesL v n ++ r = l ∧ AllB r ∧ IsU v ∧ v < 256 ^ n ∧ n ≤ l.length ∧ v = wordI (l.take n) ∧ r = l.drop n := by
  unfold rdN at h
  split at h
  next hle =>
    simp only [Option.some.injEq, Prod.mk.injEq] at h
    obtain ⟨rfl, rfl⟩ := h
    have hl : (l.take n).length = n := by simp; omega
    have hb := bytes_of_word (ha.take n) (by omega)
    rw [hl] at hb
    have hw := wordI_bd (ha.take n)
    rw [hl] at hw
    exact ⟨by rw [hb, List.take_append_drop], ha.drop n, isU_word (ha.take n) (by omega), hw.2, hle, rfl, rfl⟩
  next => cases h
theorem rdN_more {n : Nat} {l r m : List Int} {v : Int} (h : rdN n l = some (v, r)) : rdN n (l ++ m) = some (v, r ++ m) := by
  unfold rdN at h ⊢
  split at h
  next hle =>
    simp only [Option.some.injEq, Prod.mk.injEq] at h
    obtain ⟨rfl, rfl⟩ := h
    rw [if_pos (by rw [List.length_append]; omega), List.take_append_of_le_length hle, List.drop_append_of_le_length hle]
  next => cases h
/-! ### one reader after the other -/
abbrev Rd (α : Type) := List Int → Option (α × List Int)
def rdBind {α β : Type} (f : Rd α) (g : α → Rd β) : Rd β := fun l => match f l with
  | some (x, r) => g x r
  | none => none
def rdRet {α : Type} (x : α) : Rd α := fun l => some (x, l)
/-- what is read stays so, with more behind -/
def More {α : Type} (f : Rd α) : Prop := ∀ l r m x, f l = some (x, r) → f (l ++ m) = some (x, r ++ m)
/-- what is read is what is written so -/
def Back {α : Type} (f : Rd α) (e : α → List Int) (W : α → Prop) : Prop := ∀ l r x, AllB l → f l = some (x, r) → e x ++ r = l ∧ AllB r ∧ W x
theorem More.bind {α β : Type} {f : Rd α} {g : α → Rd β} (hf : More f) (hg : ∀ x, More (g x)) : More (rdBind f g) := by
  intro l r m x h
  unfold rdBind at h ⊢
  cases hfl : f l with
  | none => rw [hfl] at h; cases h
  | some p =>
    obtain ⟨y, q⟩ := p
    rw [hfl] at h
    rw [hf l q m y hfl]
    exact hg y q r m x h
theorem More.ret {α : Type} (x : α) : More (rdRet x) := by
  intro l r m y h
  cases h; rfl
theorem More.num (n : Nat) : More (rdN n) := fun _ _ _ _ h => rdN_more h
theorem rdBind_some {α β : Type} {f : Rd α} {g : α → Rd β} {l r : List Int} {z : β} (h : rdBind f g l = some (z, r)) : ∃ x q, f l = some (x, q) ∧ g x q = some (z, r) := by
  unfold rdBind at h
  cases hfl : f l with
  | none => rw [hfl] at h; cases h
  | some p => obtain ⟨y, q⟩ := p; rw [hfl] at h; exact ⟨y, q, rfl, h⟩
theorem rdBind_at {α β : Type} {f : Rd α} {g : α → Rd β} {l q : List Int} {x : α} (h : f l = some (x, q)) : rdBind f g l = g x q := by
  unfold rdBind; rw [h]
theorem rdBind_no {α β : Type} {f : Rd α} {g : α → Rd β} {l : List Int} (h : f l = none) : rdBind f g l = none := by
  unfold rdBind; rw [h]
/-- so many bytes -/
def rdB (k : Nat) : Rd (List Int) := fun l => if k ≤ l.length then some (l.take k, l.drop k) else none
theorem More.bytes (k : Nat) : More (rdB k) := by
  intro l r m x h
  unfold rdB at h ⊢
  split at h
  next hle =>
    simp only [Option.some.injEq, Prod.mk.injEq] at h
    obtain ⟨rfl, rfl⟩ := h
    rw [if_pos (by rw [List.length_append]; omega), List.take_append_of_le_length hle, List.drop_append_of_le_length hle]
  next => cases h
def rdName : Rd ByteArray := rdBind (rdN 1) fun k => rdBind (rdB k.toNat) fun l => rdRet (toBA l)
theorem More.name : More rdName := More.bind (More.num 1) fun _ => More.bind (More.bytes _) fun _ => More.ret _
theorem rdName_put {s : ByteArray} (h : s.size ≤ 255) (r : List Int) : rdName (nameW s ++ r) = some (s, r) := by
  unfold rdName nameW
  rw [List.append_assoc, rdBind_at (rdN_put ⟨by omega, by omega⟩ (by omega) _)]
  have hl := sB_len s
  have : rdB (s.size : Int).toNat (sB s ++ r) = some (sB s, r) := by
    unfold rdB
    rw [show (s.size : Int).toNat = s.size from rfl, if_pos (by rw [List.length_append, hl]; omega), List.take_left' hl, List.drop_left' hl]
  rw [rdBind_at this, toBA_sB]; rfl
theorem rdName_back : Back rdName nameW (fun s => s.size ≤ 255) := by
  intro l r s ha h
  unfold rdName at h
  obtain ⟨k, q, h1, h2⟩ := rdBind_some h
  obtain ⟨x, q2, h3, h4⟩ := rdBind_some h2
  obtain ⟨e1, a1, u1, b1, _⟩ := rdN_back (by omega) ha h1
  unfold rdB at h3
  split at h3
  next hle =>
    simp only [Option.some.injEq, Prod.mk.injEq] at h3
    obtain ⟨rfl, rfl⟩ := h3
    unfold rdRet at h4
    simp only [Option.some.injEq, Prod.mk.injEq] at h4
    obtain ⟨rfl, rfl⟩ := h4
    have hs : (toBA (q.take k.toNat)).size = k.toNat := by rw [toBA_size]; simp; omega
    have hk : ((k.toNat : Nat) : Int) = k := Int.toNat_of_nonneg u1.1
    refine ⟨?_, a1.drop _, by show (toBA _).size ≤ 255; rw [hs]; omega⟩
    unfold nameW
    rw [hs, sB_toBA (a1.take _), hk, List.append_assoc, List.take_append_drop, e1]
  next => cases h3
/-! ### the parts of an object -/
def rdSym : Rd SymD := rdBind rdName fun s => rdBind (rdN 1) fun m => if m ≤ 3 then rdBind (rdN 4) fun o => rdRet (s, decide (m % 2 = 1), o, decide (m / 2 % 2 = 1)) else fun _ => none
theorem More.none {α : Type} : More (fun _ : List Int => (Option.none : Option (α × List Int))) := by intro l r m x h; cases h
theorem More.sym : More rdSym := by
  unfold rdSym
  refine More.bind More.name fun s => More.bind (More.num 1) fun m => ?_
  split
  · exact More.bind (More.num 4) fun _ => More.ret _
  · exact More.none
def symWt (s : SymD) : List Int := symW s.1 s.2.1 s.2.2.1 s.2.2.2
def relWt (s : RelD) : List Int := relW s.1 s.2.1 s.2.2.1 s.2.2.2
def entWt (s : EntD) : List Int := entryW s.1 s.2
theorem wrap_id {x : Int} (h : IsU x) : IntKind.u64.wrap x = x := by rw [IntKind.wrap_u64]; have := h.1; have := h.2; omega
theorem rdSym_put {s : SymD} (h : s.1.size ≤ 255) (h0 : 0 ≤ s.2.2.1) (h1 : s.2.2.1 < 4294967296) (r : List Int) : rdSym (symWt s ++ r) = some (s, r) := by
  obtain ⟨s, i, o, u⟩ := s
  simp only at h h0 h1
  unfold rdSym symWt symW
  simp only [List.append_assoc]
  rw [rdBind_at (rdName_put h _), wrap_id ⟨h0, by omega⟩]
  have hm : marksW i u ≤ 3 ∧ 0 ≤ marksW i u ∧ decide (marksW i u % 2 = 1) = i ∧ decide (marksW i u / 2 % 2 = 1) = u := by cases i <;> cases u <;> decide
  rw [rdBind_at (rdN_put (marksU i u) (by omega) _), if_pos hm.1, rdBind_at (rdN_put ⟨h0, by omega⟩ (by omega) _), hm.2.2.1, hm.2.2.2]; rfl
theorem marks_back {m : Int} (h0 : 0 ≤ m) (h1 : m ≤ 3) : marksW (decide (m % 2 = 1)) (decide (m / 2 % 2 = 1)) = m := by
  rcases (by omega : m = 0 ∨ m = 1 ∨ m = 2 ∨ m = 3) with rfl | rfl | rfl | rfl <;> decide
def SymF (s : SymD) : Prop := s.1.size ≤ 255 ∧ 0 ≤ s.2.2.1 ∧ s.2.2.1 < 4294967296
theorem rdSym_back : Back rdSym symWt SymF := by
  intro l r x ha h
  unfold rdSym at h
  obtain ⟨s, q, h1, h2⟩ := rdBind_some h
  obtain ⟨e1, a1, w1⟩ := rdName_back _ _ _ ha h1
  obtain ⟨m, q2, h3, h4⟩ := rdBind_some h2
  obtain ⟨e2, a2, u2, b2, _⟩ := rdN_back (by omega) a1 h3
  split at h4
  next hm =>
    obtain ⟨o, q3, h5, h6⟩ := rdBind_some h4
    obtain ⟨e3, a3, u3, b3, _⟩ := rdN_back (by omega) a2 h5
    unfold rdRet at h6
    simp only [Option.some.injEq, Prod.mk.injEq] at h6
    obtain ⟨rfl, rfl⟩ := h6
    refine ⟨?_, a3, w1, u3.1, by simpa using b3⟩
    unfold symWt symW
    simp only
    rw [marks_back u2.1 hm, wrap_id u3, List.append_assoc, List.append_assoc, e3, e2, e1]
  next => cases h4
/-- a number of 64 bits with signs -/
def sg64 (x : Int) : Int := wrap64 x
def rdRel : Rd RelD := rdBind (rdN 4) fun a => rdBind (rdN 1) fun k => rdBind rdName fun s => rdBind (rdN 8) fun d => rdRet (a, k, s, sg64 d)
theorem More.rel : More rdRel := More.bind (More.num 4) fun _ => More.bind (More.num 1) fun _ => More.bind More.name fun _ => More.bind (More.num 8) fun _ => More.ret _
def RelF (s : RelD) : Prop := (0 ≤ s.1 ∧ s.1 < 4294967296) ∧ (0 ≤ s.2.1 ∧ s.2.1 < 256) ∧ s.2.2.1.size ≤ 255 ∧ IsI s.2.2.2
theorem sg64_wrap {d : Int} (h : IsI d) : sg64 (IntKind.u64.wrap d) = d := by
  obtain ⟨h0, h1⟩ := h
  unfold sg64 wrap64
  rw [IntKind.wrap_u64]
  omega
theorem wrap_sg64 {d : Int} (h : IsU d) : IntKind.u64.wrap (sg64 d) = d := by
  obtain ⟨h0, h1⟩ := h
  unfold sg64 wrap64
  rw [IntKind.wrap_u64]
  omega
theorem sg64_I (d : Int) : IsI (sg64 d) := by unfold sg64 wrap64 IsI; omega
theorem rdRel_put {s : RelD} (h : RelF s) (r : List Int) : rdRel (relWt s ++ r) = some (s, r) := by
  obtain ⟨a, k, s, d⟩ := s
  obtain ⟨⟨a0, a1⟩, ⟨k0, k1⟩, hs, hd⟩ := h
  simp only at a0 a1 k0 k1 hs hd
  unfold rdRel relWt relW
  simp only [List.append_assoc]
  rw [wrap_id (x := a) ⟨a0, by omega⟩, wrap_id (x := k) ⟨k0, by omega⟩]
  rw [rdBind_at (rdN_put ⟨a0, by omega⟩ (by omega) _), rdBind_at (rdN_put ⟨k0, by omega⟩ (by omega) _), rdBind_at (rdName_put hs _), rdBind_at (rdN_put (wrU d) (by have := (wrU d).2; omega) _), sg64_wrap hd]; rfl
theorem rdRel_back : Back rdRel relWt RelF := by
  intro l r x ha h
  unfold rdRel at h
  obtain ⟨a, q1, h1, h⟩ := rdBind_some h
  obtain ⟨e1, a1, u1, b1, _⟩ := rdN_back (by omega) ha h1
  obtain ⟨k, q2, h2, h⟩ := rdBind_some h
  obtain ⟨e2, a2, u2, b2, _⟩ := rdN_back (by omega) a1 h2
  obtain ⟨s, q3, h3, h⟩ := rdBind_some h
  obtain ⟨e3, a3, w3⟩ := rdName_back _ _ _ a2 h3
  obtain ⟨d, q4, h4, h⟩ := rdBind_some h
  obtain ⟨e4, a4, u4, b4, _⟩ := rdN_back (by omega) a3 h4
  unfold rdRet at h
  simp only [Option.some.injEq, Prod.mk.injEq] at h
  obtain ⟨rfl, rfl⟩ := h
  refine ⟨?_, a4, ⟨u1.1, by simpa using b1⟩, ⟨u2.1, by simpa using b2⟩, w3, sg64_I d⟩
  unfold relWt relW
  simp only
  rw [wrap_id u1, wrap_id u2, wrap_sg64 u4]
  simp only [List.append_assoc]
  rw [e4, e3, e2, e1]
/-! ### lists -/
def rdL {α : Type} (f : Rd α) : Nat → Rd (List α)
  | 0 => rdRet []
  | n + 1 => rdBind f fun x => rdBind (rdL f n) fun l => rdRet (x :: l)
theorem More.list {α : Type} {f : Rd α} (h : More f) : ∀ n, More (rdL f n)
  | 0 => More.ret _
  | n + 1 => More.bind h fun _ => More.bind (More.list h n) fun _ => More.ret _
theorem rdL_put {α : Type} {f : Rd α} {e : α → List Int} : ∀ (xs : List α) (r : List Int), (∀ x ∈ xs, ∀ r, f (e x ++ r) = some (x, r)) → rdL f xs.length (xs.flatMap e ++ r) = some (xs, r)
  | [], r, _ => rfl
  | x :: xs, r, h => by
    simp only [List.length_cons, List.flatMap_cons, List.append_assoc, rdL]
    rw [rdBind_at (h x (by simp) _), rdBind_at (rdL_put xs r (fun y hy => h y (by simp [hy])))]; rfl
theorem rdL_back {α : Type} {f : Rd α} {e : α → List Int} {W : α → Prop} (hf : Back f e W) : ∀ n l r xs, AllB l → rdL f n l = some (xs, r) → xs.flatMap e ++ r = l ∧ AllB r ∧ xs.length = n ∧ ∀ x ∈ xs, W x
  | 0, l, r, xs, ha, h => by
    unfold rdL rdRet at h
    simp only [Option.some.injEq, Prod.mk.injEq] at h
    obtain ⟨rfl, rfl⟩ := h
    exact ⟨rfl, ha, rfl, fun x hx => by cases hx⟩
  | n + 1, l, r, xs, ha, h => by
    unfold rdL at h
    obtain ⟨x, q, h1, h⟩ := rdBind_some h
    obtain ⟨ys, q2, h2, h⟩ := rdBind_some h
    unfold rdRet at h
    simp only [Option.some.injEq, Prod.mk.injEq] at h
    obtain ⟨rfl, rfl⟩ := h
    obtain ⟨e1, a1, w1⟩ := hf _ _ _ ha h1
    obtain ⟨e2, a2, l2, w2⟩ := rdL_back hf n _ _ _ a1 h2
    refine ⟨by rw [List.flatMap_cons, List.append_assoc, e2, e1], a2, by simp [l2], fun y hy => ?_⟩
    rcases List.mem_cons.1 hy with rfl | hy
    · exact w1
    · exact w2 y hy
/-- one more is read -/
theorem rdL_snoc {α : Type} {f : Rd α} : ∀ (n : Nat) (l : List Int), rdL f (n + 1) l = rdBind (rdL f n) (fun xs => rdBind f fun x => rdRet (xs ++ [x])) l
  | 0, l => by
    simp only [rdL, rdBind, rdRet]
    cases f l with
    | none => rfl
    | some p => rfl
  | n + 1, l => by
    have ih := fun q => rdL_snoc (f := f) n q
    rw [rdL]
    simp only [rdBind, rdRet] at ih ⊢
    cases hf : f l with
    | none => simp [rdL, rdBind, hf]
    | some p =>
      obtain ⟨x, q⟩ := p
      simp only [rdL, rdBind, hf]
      have := ih q
      simp only [rdL, rdBind] at this
      rw [this]
      cases rdL f n q with
      | none => rfl
      | some p2 =>
        obtain ⟨ys, q2⟩ := p2
        simp only [rdRet]
        cases f q2 with
        | none => rfl
        | some p3 => rfl
def rdEnt : Rd EntD := rdBind rdName fun s => rdBind (rdN 1) fun k => rdBind (rdL (rdN 1) k.toNat) fun l => rdRet (s, l)
theorem More.ent : More rdEnt := More.bind More.name fun _ => More.bind (More.num 1) fun _ => More.bind (More.list (More.num 1) _) fun _ => More.ret _
def EntF (s : EntD) : Prop := s.1.size ≤ 255 ∧ s.2.length ≤ 255 ∧ ∀ z ∈ s.2, 0 ≤ z ∧ z < 256
theorem num1_put {z : Int} (h : 0 ≤ z ∧ z < 256) (r : List Int) : rdN 1 (bytesL (IntKind.u64.wrap z) 1 ++ r) = some (z, r) := by
  rw [wrap_id ⟨h.1, by omega⟩]
  exact rdN_put ⟨h.1, by omega⟩ (by omega) r
theorem num1_back : Back (rdN 1) (fun z => bytesL (IntKind.u64.wrap z) 1) (fun z => 0 ≤ z ∧ z < 256) := by
  intro l r z ha h
  obtain ⟨e1, a1, u1, b1, _⟩ := rdN_back (by omega) ha h
  exact ⟨by show bytesL (IntKind.u64.wrap z) 1 ++ r = l; rw [wrap_id u1]; exact e1, a1, u1.1, by simpa using b1⟩
theorem rdEnt_put {s : EntD} (h : EntF s) (r : List Int) : rdEnt (entWt s ++ r) = some (s, r) := by
  obtain ⟨s, zs⟩ := s
  obtain ⟨hs, hl, hz⟩ := h
  simp only at hs hl hz
  unfold rdEnt entWt entryW
  simp only [List.append_assoc]
  rw [rdBind_at (rdName_put hs _), rdBind_at (rdN_put ⟨by omega, by omega⟩ (by omega) _)]
  rw [show (zs.length : Int).toNat = zs.length from rfl]
  unfold paramW
  rw [rdBind_at (rdL_put zs r (fun x hx r => num1_put (hz x hx) r))]; rfl
theorem rdEnt_back : Back rdEnt entWt EntF := by
  intro l r x ha h
  unfold rdEnt at h
  obtain ⟨s, q1, h1, h⟩ := rdBind_some h
  obtain ⟨e1, a1, w1⟩ := rdName_back _ _ _ ha h1
  obtain ⟨k, q2, h2, h⟩ := rdBind_some h
  obtain ⟨e2, a2, u2, b2, _⟩ := rdN_back (by omega) a1 h2
  obtain ⟨zs, q3, h3, h⟩ := rdBind_some h
  obtain ⟨e3, a3, l3, w3⟩ := rdL_back num1_back _ _ _ _ a2 h3
  unfold rdRet at h
  simp only [Option.some.injEq, Prod.mk.injEq] at h
  obtain ⟨rfl, rfl⟩ := h
  refine ⟨?_, a3, w1, by simp only; omega, w3⟩
  unfold entWt entryW paramW
  simp only
  rw [l3, Int.toNat_of_nonneg u2.1]
  simp only [List.append_assoc]
  rw [e3, e2, e1]
/-! ### the object -/
def magicW : List Int := [79, 66, 74, 49]
def headW (d : ObjD) : List Int := bytesL d.text.length 2 ++ (bytesL d.data.length 2 ++ (bytesL d.syms.length 2 ++ (bytesL d.rels.length 2 ++ bytesL d.ents.length 2)))
def encB (d : ObjD) : List Int := magicW ++ (headW d ++ (d.text.flatMap (fun x => bytesL x 4) ++ (d.data.flatMap (fun x => bytesL x 8) ++ (d.syms.flatMap symWt ++ (d.rels.flatMap relWt ++ d.ents.flatMap entWt)))))
def rdObj : Rd ObjD := rdBind (rdB 4) fun m => if m = magicW then rdBind (rdL (rdN 2) 5) fun cs => rdBind (rdL (rdN 4) (nth cs 0).toNat) fun t => rdBind (rdL (rdN 8) (nth cs 1).toNat) fun dd => rdBind (rdL rdSym (nth cs 2).toNat) fun ss => rdBind (rdL rdRel (nth cs 3).toNat) fun rr => rdBind (rdL rdEnt (nth cs 4).toNat) fun ee => rdRet ⟨t, dd, ss, rr, ee⟩ else fun _ => none
theorem More.obj : More rdObj := by
  unfold rdObj
  refine More.bind (More.bytes 4) fun m => ?_
  split
  · exact More.bind (More.list (More.num 2) 5) fun _ => More.bind (More.list (More.num 4) _) fun _ => More.bind (More.list (More.num 8) _) fun _ => More.bind (More.list More.sym _) fun _ => More.bind (More.list More.rel _) fun _ => More.bind (More.list More.ent _) fun _ => More.ret _
  · exact More.none
/-- an object whose numbers fit their bytes -/
structure ObjF (d : ObjD) : Prop where
  ct : d.text.length < 65536
  cd : d.data.length < 65536
  cs : d.syms.length < 65536
  cr : d.rels.length < 65536
  ce : d.ents.length < 65536
  text : ∀ x ∈ d.text, 0 ≤ x ∧ x < 4294967296
  data : ∀ x ∈ d.data, IsU x
  syms : ∀ x ∈ d.syms, SymF x
  rels : ∀ x ∈ d.rels, RelF x
  ents : ∀ x ∈ d.ents, EntF x
theorem num_back {n : Nat} (hn : n ≤ 8) : Back (rdN n) (fun z => bytesL z n) (fun z => IsU z ∧ z < 256 ^ n) := by
  intro l r z ha h
  obtain ⟨e1, a1, u1, b1, _⟩ := rdN_back hn ha h
  exact ⟨e1, a1, u1, b1⟩
theorem five_put {a b c d e : Nat} (ha : a < 65536) (hb : b < 65536) (hc : c < 65536) (hd : d < 65536) (he : e < 65536) (r : List Int) : rdL (rdN 2) 5 (bytesL a 2 ++ (bytesL b 2 ++ (bytesL c 2 ++ (bytesL d 2 ++ (bytesL e 2 ++ r))))) = some ([(a : Int), b, c, d, e], r) := by
  simp only [rdL]
  rw [rdBind_at (rdN_put ⟨by omega, by omega⟩ (by omega) _)]
  rw [rdBind_at (x := [(b : Int), c, d, e]) (q := r)]
  · rfl
  rw [rdBind_at (rdN_put ⟨by omega, by omega⟩ (by omega) _)]
  rw [rdBind_at (x := [(c : Int), d, e]) (q := r)]
  · rfl
  rw [rdBind_at (rdN_put ⟨by omega, by omega⟩ (by omega) _)]
  rw [rdBind_at (x := [(d : Int), e]) (q := r)]
  · rfl
  rw [rdBind_at (rdN_put ⟨by omega, by omega⟩ (by omega) _)]
  rw [rdBind_at (x := [(e : Int)]) (q := r)]
  · rfl
  rw [rdBind_at (rdN_put ⟨by omega, by omega⟩ (by omega) _)]
  rfl
theorem rdObj_put {d : ObjD} (h : ObjF d) (r : List Int) : rdObj (encB d ++ r) = some (d, r) := by
  obtain ⟨t, dd, ss, rr, ee⟩ := d
  obtain ⟨ct, cd, cs, cr, ce, ft, fd, fs, fr, fe⟩ := h
  simp only at ct cd cs cr ce ft fd fs fr fe
  unfold rdObj encB headW
  simp only [List.append_assoc]
  have hm : ∀ q, rdB 4 (magicW ++ q) = some (magicW, q) := fun q => by unfold rdB magicW; simp
  rw [rdBind_at (hm _), if_pos rfl]
  rw [rdBind_at (five_put ct cd cs cr ce _)]
  rw [show (nth [(t.length : Int), dd.length, ss.length, rr.length, ee.length] 0).toNat = t.length from rfl, show (nth [(t.length : Int), dd.length, ss.length, rr.length, ee.length] 1).toNat = dd.length from rfl, show (nth [(t.length : Int), dd.length, ss.length, rr.length, ee.length] 2).toNat = ss.length from rfl, show (nth [(t.length : Int), dd.length, ss.length, rr.length, ee.length] 3).toNat = rr.length from rfl, show (nth [(t.length : Int), dd.length, ss.length, rr.length, ee.length] 4).toNat = ee.length from rfl]
  rw [rdBind_at (rdL_put t _ (fun x hx r => rdN_put ⟨(ft x hx).1, by have := (ft x hx).2; omega⟩ (by have := (ft x hx).2; omega) r))]
  rw [rdBind_at (rdL_put dd _ (fun x hx r => rdN_put (fd x hx) (by have := (fd x hx).2; omega) r))]
  rw [rdBind_at (rdL_put ss _ (fun x hx r => rdSym_put (fs x hx).1 (fs x hx).2.1 (fs x hx).2.2 r))]
  rw [rdBind_at (rdL_put rr _ (fun x hx r => rdRel_put (fr x hx) r))]
  rw [rdBind_at (rdL_put ee _ (fun x hx r => rdEnt_put (fe x hx) r))]; rfl
theorem five_cases {cs : List Int} (h : cs.length = 5) : cs = [nth cs 0, nth cs 1, nth cs 2, nth cs 3, nth cs 4] := by
  match cs, h with
  | [a, b, c, d, e], _ => rfl
theorem rdObj_back : Back rdObj encB ObjF := by
  intro l r x ha h
  unfold rdObj at h
  obtain ⟨m, q0, h0, h⟩ := rdBind_some h
  split at h
  next hm =>
    subst hm
    obtain ⟨cs, q1, h1, h⟩ := rdBind_some h
    obtain ⟨t, q2, h2, h⟩ := rdBind_some h
    obtain ⟨dd, q3, h3, h⟩ := rdBind_some h
    obtain ⟨ss, q4, h4, h⟩ := rdBind_some h
    obtain ⟨rr, q5, h5, h⟩ := rdBind_some h
    obtain ⟨ee, q6, h6, h⟩ := rdBind_some h
    unfold rdRet at h
    simp only [Option.some.injEq, Prod.mk.injEq] at h
    obtain ⟨rfl, rfl⟩ := h
    have e0 : magicW ++ q0 = l ∧ AllB q0 := by
      unfold rdB at h0
      split at h0
      next hle =>
        simp only [Option.some.injEq, Prod.mk.injEq] at h0
        obtain ⟨h01, rfl⟩ := h0
        rw [← h01]
        exact ⟨List.take_append_drop _ _, ha.drop _⟩
      next => cases h0
    obtain ⟨e1, a1, l1, w1⟩ := rdL_back (num_back (by omega)) _ _ _ _ e0.2 h1
    have hc := five_cases l1
    have b0 := w1 (nth cs 0) (by rw [hc]; simp [nth])
    have b1 := w1 (nth cs 1) (by rw [hc]; simp [nth])
    have b2 := w1 (nth cs 2) (by rw [hc]; simp [nth])
    have b3 := w1 (nth cs 3) (by rw [hc]; simp [nth])
    have b4 := w1 (nth cs 4) (by rw [hc]; simp [nth])
    have p0 := b0.1.1; have p1 := b1.1.1; have p2 := b2.1.1; have p3 := b3.1.1; have p4 := b4.1.1
    have s0 : nth cs 0 < 65536 := by simpa using b0.2
    have s1 : nth cs 1 < 65536 := by simpa using b1.2
    have s2 : nth cs 2 < 65536 := by simpa using b2.2
    have s3 : nth cs 3 < 65536 := by simpa using b3.2
    have s4 : nth cs 4 < 65536 := by simpa using b4.2
    clear b0 b1 b2 b3 b4
    obtain ⟨e2, a2, l2, w2⟩ := rdL_back (num_back (by omega)) _ _ _ _ a1 h2
    obtain ⟨e3, a3, l3, w3⟩ := rdL_back (num_back (by omega)) _ _ _ _ a2 h3
    obtain ⟨e4, a4, l4, w4⟩ := rdL_back rdSym_back _ _ _ _ a3 h4
    obtain ⟨e5, a5, l5, w5⟩ := rdL_back rdRel_back _ _ _ _ a4 h5
    obtain ⟨e6, a6, l6, w6⟩ := rdL_back rdEnt_back _ _ _ _ a5 h6
    refine ⟨?_, a6, ⟨by simp only; omega, by simp only; omega, by simp only; omega, by simp only; omega, by simp only; omega, fun x hx => ⟨(w2 x hx).1.1, by have := (w2 x hx).2; simpa using this⟩, fun x hx => (w3 x hx).1, w4, w5, w6⟩⟩
    have hh : headW ⟨t, dd, ss, rr, ee⟩ = cs.flatMap (fun z => bytesL z 2) := by
      rw [hc]
      unfold headW
      simp only [List.flatMap_cons, List.flatMap_nil, List.append_nil]
      rw [l2, l3, l4, l5, l6, Int.toNat_of_nonneg p0, Int.toNat_of_nonneg p1, Int.toNat_of_nonneg p2, Int.toNat_of_nonneg p3, Int.toNat_of_nonneg p4]
    unfold encB
    rw [hh]
    simp only [List.append_assoc]
    rw [e6, e5, e4, e3, e2, e1, e0.1]
  next => cases h
end Go.Proofs.YtfdpbogbnfkilaaDoor
