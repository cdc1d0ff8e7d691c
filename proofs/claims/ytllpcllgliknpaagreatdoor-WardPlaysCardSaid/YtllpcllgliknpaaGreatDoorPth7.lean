/- Paths as rows of bytes: the document's terms, by definition. -/
import Derived.Test.YtllpcllgliknpaaGreatDoorRows
set_option linter.unusedSimpArgs false
set_option maxRecDepth 100000
set_option linter.unusedVariables false
namespace Go.Proofs.YtllpcllgliknpaaGreatDoor
open Go

abbrev S8 := List UInt8
/-- The byte at a place, as a number. -/
def chr (l : S8) (i : Nat) : Nat := (l.getD i 0).toNat
theorem chr_lt (l : S8) (i : Nat) : chr l i < 256 := (l.getD i 0).toNat_lt
theorem chr_eq {l : S8} {i : Nat} (h : i < l.length) : chr l i = (l[i]).toNat := by
  unfold chr; rw [List.getD_eq_getElem?_getD, List.getElem?_eq_getElem h]; rfl
attribute [irreducible] chr
/-- The bytes that a name may have. -/
def allS : S8 := [97, 98, 99, 100, 101, 102, 103, 104, 105, 106, 107, 108, 109, 110, 111, 112, 113, 114, 115, 116, 117, 118, 119, 120, 121, 122, 65, 66, 67, 68, 69, 70, 71, 72, 73, 74, 75, 76, 77, 78, 79, 80, 81, 82, 83, 84, 85, 86, 87, 88, 89, 90, 48, 49, 50, 51, 52, 53, 54, 55, 56, 57, 45, 95, 46, 126, 43]
def signB (c : UInt8) : Bool := allS.contains c
/-- The names between the "/". -/
def nm : S8 → List S8
  | [] => [[]]
  | c :: r => if c = 47 then [] :: nm r else
    match nm r with
    | [] => [[c]]
    | h :: t => (c :: h) :: t
theorem nm_ne (l : S8) : nm l ≠ [] := by
  cases l with
  | nil => simp [nm]
  | cons c r =>
    simp only [nm]
    split
    · simp
    · split <;> simp
theorem nm_end {a : S8} (h : ∀ c ∈ a, c ≠ 47) : nm a = [a] := by
  induction a with
  | nil => rfl
  | cons c r ih =>
    rw [nm, if_neg (h c (by simp)), ih (fun x hx => h x (by simp [hx]))]
theorem nm_more {a : S8} (r : S8) (h : ∀ c ∈ a, c ≠ 47) : nm (a ++ 47 :: r) = a :: nm r := by
  induction a with
  | nil => simp [nm]
  | cons c t ih =>
    rw [List.cons_append, nm, if_neg (h c (by simp)), ih (fun x hx => h x (by simp [hx]))]
/-- The first name begins with whatever comes ahead of the first "/". -/
theorem nm_head {a : S8} (r : S8) (h : ∀ c ∈ a, c ≠ 47) : ∃ b t, nm (a ++ r) = (a ++ b) :: t := by
  induction a with
  | nil =>
    cases hn : nm r with
    | nil => exact absurd hn (nm_ne r)
    | cons b t => exact ⟨b, t, by simpa using hn⟩
  | cons c u ih =>
    obtain ⟨b, t, e⟩ := ih (fun x hx => h x (by simp [hx]))
    exact ⟨b, t, by rw [List.cons_append, nm, if_neg (h c (by simp)), e]; rfl⟩
def okN (n : S8) : Bool := n != [] && n != [46] && n != [46, 46] && n.all signB
/-- All names are names. -/
def allN (l : S8) : Bool := (nm l).all okN
def goodL (l : S8) : Bool := decide (l.length ≤ 100) && allN l
theorem allN_end {a : S8} (h : ∀ c ∈ a, c ≠ 47) : allN a = okN a := by unfold allN; rw [nm_end h]; simp
theorem allN_more {a : S8} (r : S8) (h : ∀ c ∈ a, c ≠ 47) : allN (a ++ 47 :: r) = (okN a && allN r) := by unfold allN; rw [nm_more r h]; simp
theorem allN_odd {a : S8} (r : S8) (h : ∀ c ∈ a, c ≠ 47) (x : UInt8) (hx : x ∈ a) (hs : signB x = false) : allN (a ++ r) = false := by
  obtain ⟨b, t, e⟩ := nm_head r h
  unfold allN
  rw [e]
  have : okN (a ++ b) = false := by
    unfold okN
    have : (a ++ b).all signB = false := by
      rw [List.all_eq_false]
      exact ⟨x, by simp [hx], by simp [hs]⟩
    rw [this, Bool.and_false]
  simp [this]
/-- One more than the place of the last "/" ahead of place i; 0 if there is none. -/
def kTo (l : S8) : Nat → Nat
  | 0 => 0
  | i + 1 => if chr l i = 47 then i + 1 else kTo l i
def kL (l : S8) : Nat := kTo l l.length
theorem kTo_le (l : S8) (i : Nat) : kTo l i ≤ i := by
  induction i with
  | zero => exact Nat.le_refl _
  | succ i ih => rw [kTo]; split <;> omega
theorem kL_le (l : S8) : kL l ≤ l.length := kTo_le l _
def dirL (l : S8) : S8 := l.take (kL l - 1)
def baseL (l : S8) : S8 := l.drop (kL l)
def inL (s d : S8) : Bool := decide (d.length + 1 < s.length) && (s.take (d.length + 1) == d ++ [47])
def startsL (s t : S8) : Bool := decide (t.length ≤ s.length) && (s.take t.length == t)
def decL (n : Nat) : S8 := if h : n < 10 then [UInt8.ofNat (48 + n)] else decL (n / 10) ++ [UInt8.ofNat (48 + n % 10)]
def hexB (c : Nat) : Bool := (decide (48 ≤ c) && decide (c ≤ 57)) || (decide (97 ≤ c) && decide (c ≤ 102))
def confl : S8 := [99, 111, 110, 102, 108, 105, 99, 116, 126]
def okHome (size : Int) (sum : S8) : Bool := decide (0 ≤ size) && decide (size ≤ 16384) && decide (sum.length = 64) && sum.all (fun c => hexB c.toNat)
def homeOf (size : Int) (sum : S8) : S8 := confl ++ decL size.toNat ++ [126] ++ sum
def homeL (size : Int) (sum : S8) : S8 × Nat := if okHome size sum then (homeOf size sum, 0) else ([], 1)
def putL (l ahead : S8) : S8 := l.take (kL l) ++ ahead ++ l.drop (kL l)
def withL (l ahead : S8) : S8 × Nat := if goodL l && goodL (putL l ahead) then (putL l ahead, 0) else ([], 7)
def tmpS : S8 := [46, 116, 109, 112, 126]
def parS : S8 := [46, 112, 97, 114, 126]
def copyL (l : S8) (size : Int) (sum : S8) : S8 × Nat :=
  if goodL l then (if (homeL size sum).2 = 0 then (if goodL (l ++ [46] ++ (homeL size sum).1) then (l ++ [46] ++ (homeL size sum).1, 0) else ((homeL size sum).1, 0)) else ([], (homeL size sum).2)) else ([], 7)
def kindL (l : S8) : Nat := if goodL l then (if startsL (baseL l) tmpS then 1 else if startsL (baseL l) parS then 2 else 3) else 0
/-- Equal, or one in the other. -/
def hitL (a b : S8) : Bool := (a == b) || inL a b || inL b a
/-- What First tells of a list: the first pair, by the second one, then by the first one. -/
def FirstR (ls : List S8) (a b : S8) (some : Bool) : Prop :=
  (some = true ∧ ∃ i k, i < k ∧ k < ls.length ∧ a = ls.getD i [] ∧ b = ls.getD k [] ∧ hitL (ls.getD i []) (ls.getD k []) = true ∧ ∀ i' k', i' < k' → (k' < k ∨ (k' = k ∧ i' < i)) → hitL (ls.getD i' []) (ls.getD k' []) = false)
  ∨ (some = false ∧ a = [] ∧ b = [] ∧ ∀ i' k', i' < k' → k' < ls.length → hitL (ls.getD i' []) (ls.getD k' []) = false)
end Go.Proofs.YtllpcllgliknpaaGreatDoor
