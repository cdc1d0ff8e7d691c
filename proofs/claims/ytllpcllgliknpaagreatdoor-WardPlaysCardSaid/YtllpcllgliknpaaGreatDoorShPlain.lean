/- SHA-256 on lists of bytes: plain definitions and their equations; nothing of the program. -/
import Derived.Test.YtllpcllgliknpaaGreatDoorShLeaf
import Derived.Test.YtllpcllgliknpaaGreatDoorShTool
set_option linter.unusedSimpArgs false
set_option maxRecDepth 100000
set_option linter.unusedVariables false
namespace Go.Proofs.YtllpcllgliknpaaGreatDoor.Sha
open Go

/-- The word number t of a block, out of its first k bytes. -/
def pw (m : Nat → BitVec 8) (t : Nat) : Nat → BitVec 32
  | 0 => 0#32
  | k + 1 => (pw m t k <<< 8) ||| (m (4 * t + k)).setWidth 32
theorem or_mul (x : BitVec 32) (z : BitVec 8) : (x <<< 8) ||| z.setWidth 32 = x * 256#32 + z.setWidth 32 := by
  have h1 : x * 256#32 = x <<< 8 := by
    rw [BitVec.shiftLeft_eq_mul_twoPow]; rfl
  rw [h1]
  symm
  apply BitVec.add_eq_or_of_and_eq_zero
  apply BitVec.eq_of_getLsbD_eq
  intro i hi
  simp only [BitVec.getLsbD_and, BitVec.getLsbD_shiftLeft, BitVec.getLsbD_setWidth]
  by_cases h : i < 8
  · simp [h]
  · have : z.getLsbD i = false := BitVec.getLsbD_of_ge _ _ (by omega)
    simp [this]

/-- The words of a block. -/
def W (m : Nat → BitVec 8) (t : Nat) : BitVec 32 :=
  if h : t < 16 then pw m t 4 else s1 (W m (t - 2)) + W m (t - 7) + s0 (W m (t - 15)) + W m (t - 16)
termination_by t
theorem W_lo (m : Nat → BitVec 8) (t : Nat) (h : t < 16) : W m t = pw m t 4 := by rw [W, dif_pos h]
theorem W_hi (m : Nat → BitVec 8) (t : Nat) (h : 16 ≤ t) : W m t = s1 (W m (t - 2)) + W m (t - 7) + s0 (W m (t - 15)) + W m (t - 16) := by
  rw [W, dif_neg (by omega)]

/-- Eight words. -/
structure S8 where
  (a b c d e f g h : BitVec 32)
def S8.get (s : S8) : Nat → BitVec 32
  | 0 => s.a | 1 => s.b | 2 => s.c | 3 => s.d | 4 => s.e | 5 => s.f | 6 => s.g | _ => s.h
def t1 (s : S8) (k w : BitVec 32) : BitVec 32 := s.h + S1 s.e + (s.e &&& s.f ^^^ ~~~s.e &&& s.g) + k + w
def t2 (s : S8) : BitVec 32 := S0 s.a + (s.a &&& s.b ^^^ s.a &&& s.c ^^^ s.b &&& s.c)
def rnd (s : S8) (k w : BitVec 32) : S8 := ⟨t1 s k w + t2 s, s.a, s.b, s.c, s.d + t1 s k w, s.e, s.f, s.g⟩
def K256 : List (BitVec 32) := [1116352408#32, 1899447441#32, 3049323471#32, 3921009573#32, 961987163#32, 1508970993#32, 2453635748#32, 2870763221#32, 3624381080#32, 310598401#32, 607225278#32, 1426881987#32, 1925078388#32, 2162078206#32, 2614888103#32, 3248222580#32, 3835390401#32, 4022224774#32, 264347078#32, 604807628#32, 770255983#32, 1249150122#32, 1555081692#32, 1996064986#32, 2554220882#32, 2821834349#32, 2952996808#32, 3210313671#32, 3336571891#32, 3584528711#32, 113926993#32, 338241895#32, 666307205#32, 773529912#32, 1294757372#32, 1396182291#32, 1695183700#32, 1986661051#32, 2177026350#32, 2456956037#32, 2730485921#32, 2820302411#32, 3259730800#32, 3345764771#32, 3516065817#32, 3600352804#32, 4094571909#32, 275423344#32, 430227734#32, 506948616#32, 659060556#32, 883997877#32, 958139571#32, 1322822218#32, 1537002063#32, 1747873779#32, 1955562222#32, 2024104815#32, 2227730452#32, 2361852424#32, 2428436474#32, 2756734187#32, 3204031479#32, 3329325298#32]
def K (t : Nat) : BitVec 32 := K256.getD t 0#32
def H0 : S8 := ⟨1779033703#32, 3144134277#32, 1013904242#32, 2773480762#32, 1359893119#32, 2600822924#32, 528734635#32, 1541459225#32⟩
def rnds (m : Nat → BitVec 8) (s : S8) : Nat → S8
  | 0 => s
  | k + 1 => rnd (rnds m s k) (K k) (W m k)
def add8 (x y : S8) : S8 := ⟨x.a + y.a, x.b + y.b, x.c + y.c, x.d + y.d, x.e + y.e, x.f + y.f, x.g + y.g, x.h + y.h⟩
/-- H behind a block. -/
def comp (s : S8) (m : Nat → BitVec 8) : S8 := add8 s (rnds m s 64)
theorem get_add8 (x y : S8) (i : Nat) : (add8 x y).get i = x.get i + y.get i := by
  match i with
  | 0 | 1 | 2 | 3 | 4 | 5 | 6 => rfl
  | n + 7 => rfl

/-- Only the 64 bytes of the block matter. -/
theorem pw_congr {m m' : Nat → BitVec 8} {t : Nat} : ∀ k, (∀ j, j < k → m (4 * t + j) = m' (4 * t + j)) → pw m t k = pw m' t k
  | 0, _ => rfl
  | k + 1, h => by rw [pw, pw, pw_congr k (fun j hj => h j (by omega)), h k (by omega)]
theorem W_congr {m m' : Nat → BitVec 8} (h : ∀ j, j < 64 → m j = m' j) (t : Nat) : W m t = W m' t := by
  induction t using Nat.strongRecOn with
  | _ t ih =>
    by_cases ht : t < 16
    · rw [W_lo m t ht, W_lo m' t ht, pw_congr 4 (fun j hj => h _ (by omega))]
    · rw [W_hi m t (by omega), W_hi m' t (by omega), ih _ (by omega), ih _ (by omega), ih _ (by omega), ih _ (by omega)]
theorem rnds_congr {m m' : Nat → BitVec 8} (h : ∀ j, j < 64 → m j = m' j) (s : S8) : ∀ k, rnds m s k = rnds m' s k
  | 0 => rfl
  | k + 1 => by rw [rnds, rnds, rnds_congr h s k, W_congr h k]
theorem comp_congr {m m' : Nat → BitVec 8} (h : ∀ j, j < 64 → m j = m' j) (s : S8) : comp s m = comp s m' := by rw [comp, comp, rnds_congr h]

/-- H behind the first n blocks of bytes. -/
def hB (l : List (BitVec 8)) : Nat → S8
  | 0 => H0
  | n + 1 => comp (hB l n) fun j => l.getD (64 * n + j) 0#8
theorem hB_append (l r : List (BitVec 8)) : ∀ n, 64 * n ≤ l.length → hB (l ++ r) n = hB l n
  | 0, _ => rfl
  | n + 1, h => by
    rw [hB, hB, hB_append l r n (by omega)]
    apply comp_congr
    intro j hj
    simp only [List.getD_eq_getElem?_getD]
    rw [List.getElem?_append_left (by omega)]

/-- n as eight bytes, the greatest first. -/
def be64 (n : Nat) : List (BitVec 8) := (List.range 8).map fun i => BitVec.ofNat 8 (n / 256 ^ (7 - i))
/-- The smallest number of zero bytes behind 80. -/
def nz (n : Nat) : Nat := (119 - n % 64) % 64
theorem nz_ok (n : Nat) : (n + 1 + nz n) % 64 = 56 := by unfold nz; omega
theorem nz_lt (n k : Nat) (h : k < nz n) : (n + 1 + k) % 64 ≠ 56 := by unfold nz at h; omega
theorem nz_le (n : Nat) : nz n ≤ 63 := by unfold nz; omega
/-- Bytes, filled up. -/
def padl (l : List (BitVec 8)) : List (BitVec 8) := l ++ 128#8 :: (List.replicate (nz l.length) 0#8 ++ be64 (8 * l.length))
theorem be64_length (n : Nat) : (be64 n).length = 8 := by simp [be64]
theorem padl_length (l : List (BitVec 8)) : (padl l).length = l.length + 1 + nz l.length + 8 := by simp [padl, be64_length]; omega
theorem padl_mod (l : List (BitVec 8)) : (padl l).length % 64 = 0 := by rw [padl_length]; have := nz_ok l.length; omega
/-- Byte number i of eight words. -/
def dgB (s : S8) (i : Nat) : BitVec 8 := (s.get (i / 4) >>> (24 - 8 * (i % 4))).setWidth 8
/-- The digest of bytes. -/
def dg (l : List (BitVec 8)) (i : Nat) : BitVec 8 := dgB (hB (padl l) ((padl l).length / 64)) i

/-- A row of n values. -/
def tab (n : Nat) (f : Nat → Value) : Array Value := ((List.range n).map f).toArray
theorem tab_size (n : Nat) (f : Nat → Value) : (tab n f).size = n := by simp [tab]
theorem tab_get (n : Nat) (f : Nat → Value) (i : Nat) (h : i < n) : (tab n f)[i]? = some (f i) := by simp [tab, h]
theorem tab_congr {n : Nat} {f g : Nat → Value} (h : ∀ i, i < n → f i = g i) : tab n f = tab n g := by
  unfold tab
  congr 1
  exact List.map_congr_left fun i hi => h i (by simpa using hi)
theorem tab_set (n : Nat) (f : Nat → Value) (i : Nat) (v : Value) : (tab n f).setIfInBounds i v = tab n (fun j => if j = i then v else f j) := by
  apply Array.ext_getElem?
  intro j
  rw [Array.getElem?_setIfInBounds]
  by_cases hj : j < n
  · by_cases e : i = j
    · subst e; simp [tab, hj]
    · have e' : ¬ j = i := fun h => e h.symm
      simp [tab, hj, e, e']
  · by_cases e : i = j
    · subst e; simp [tab, hj]
    · simp [tab, hj, e]

theorem size37 : (Tryz.prog.info? 93).map (·.size) = some 1 := by kernel_rfl
theorem size5 : (Tryz.prog.info? 5).map (·.size) = some 1 := by kernel_rfl
theorem size3 : (Tryz.prog.info? 3).map (·.size) = some 1 := by kernel_rfl
theorem st_U (a : Addr) (x : BitVec 32) (w : World) (hcell : (w.cell? a).isSome = true) (hf : w.frozen? a = false) : (stT 93 (.pointer (some a)) (U x)).run Tryz.prog w = .ok .skip (w.setCell a (U x)) :=
  stT_one 93 a (U x) w (one_U x) (cells_U x) size37 hcell hf
theorem st_B (a : Addr) (x : BitVec 8) (w : World) (hcell : (w.cell? a).isSome = true) (hf : w.frozen? a = false) : (stT 5 (.pointer (some a)) (B x)).run Tryz.prog w = .ok .skip (w.setCell a (B x)) :=
  stT_one 5 a (B x) w (one_B x) (cells_B x) size5 hcell hf
theorem st_I (a : Addr) (x : Int) (w : World) (hcell : (w.cell? a).isSome = true) (hf : w.frozen? a = false) : (stT 3 (.pointer (some a)) (.int .i64 x)).run Tryz.prog w = .ok .skip (w.setCell a (.int .i64 x)) :=
  stT_one 3 a _ w rfl rfl size3 hcell hf
attribute [go_sem ↓] exec_store
attribute [go_sem] st_U st_B st_I
end Go.Proofs.YtllpcllgliknpaaGreatDoor.Sha
