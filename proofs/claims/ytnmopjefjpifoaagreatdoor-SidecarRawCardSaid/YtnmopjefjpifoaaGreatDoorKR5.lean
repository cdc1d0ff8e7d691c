/- Merged texts: Shr12, Fof12, Where, AskJ, Puts, OwnX, CopyX, EncM, DecM, RecM, BEq, ChkP, RecP, SubP, Plus4. -/
import Derived.Test.YtnmopjefjpifoaaGreatDoorKR4
import Derived.Test.YtnmopjefjpifoaaGreatDoorKR2
import Derived.Lib.Walk
import Derived.Shelf.Abstract
import Derived.Deep.LoopGhost
import Derived.Deep.QuietTactic
import Derived.BigQuiet
import Derived.Test.YtnmopjefjpifoaaGreatDoorKR1
import Derived.Test.YtnmopjefjpifoaaGreatDoorCuts
import Derived.StillTailTactics
import Derived.Deep.RegionHeld3
set_option linter.unusedSimpArgs false
set_option linter.unusedVariables false
/- (*sidecar.mender).shards. -/
set_option maxRecDepth 100000
namespace Go.Proofs.YtnmopjefjpifoaaGreatDoor
open Go Go.RowKit
attribute [-go_sem] Sha.exec_store

theorem bs1Bl (x : Bool) (w : World) : (bsT 85 1 #[(0, .bool x)]).run Tryz.prog w = .ok (.value (.slice (some ⟨w.heap.size, 0, none⟩) 1 1)) (w.alloc (.cells #[.bool x] 4)) := by kernel_rfl
theorem bs1R (q : Option Addr) (n cap : Nat) (w : World) : (bsT 73 1 #[(0, .slice q n cap)]).run Tryz.prog w = .ok (.value (.slice (some ⟨w.heap.size, 0, none⟩) 1 1)) (w.alloc (.cells #[.slice q n cap] 53)) := by kernel_rfl
theorem undBl12 : Tryz.prog.underlying 85 = some (.slice 4) := by kernel_rfl
theorem sizeBl12 (w : World) : (sizeOf (Tryz.prog.elem 85)).run Tryz.prog w = .ok 1 w := by kernel_rfl
theorem sl_lhB12 (c o n cap a b m : Nat) (w : World) (h1 : a + m = b) (h2 : b ≤ cap) (h3 : a < cap) :
    (slT 85 (.slice (some ⟨c, o, none⟩) n cap) (some (.int .i64 (a : Int))) (some (.int .i64 (b : Int))) none).run Tryz.prog w = .ok (.value (.slice (some ⟨c, o + a, none⟩) m (cap - a))) w := by
  have h := run_sliceAt_slice (P := Tryz.prog) w 85 (.slice (some ⟨c, o, none⟩) n cap) (some (.int .i64 (a : Int))) (some (.int .i64 (b : Int))) none undBl12
  rw [run_slice_lh (P := Tryz.prog) w 85 (some ⟨c, o, none⟩) n cap undBl12 .i64 .i64 (a : Int) (b : Int) (by omega) (by omega) (by omega), sizeBl12] at h
  simp only [slT, Sem.run_bind, h, Result.andThen_ok, Sem.run_pure]
  simp only [sliced, Int.toNat_natCast, Nat.mul_one]
  rw [if_neg (by omega)]
  show Result.ok (Next.value (.slice (some (Addr.add _ a)) _ _)) w = _
  rw [Addr.add_mid, show b - a = m by omega]
/-- Which parity stands, and where it lies in the sidecar. -/
structure SideAt (w : World) (q2 : Option Addr) (n2 cap2 G ni : Nat) (sd : List (BitVec 8)) (iv : Nat → Bool) : Prop where
  sl : Sl w q2 sd
  len : sd.length = n2
  cap : n2 ≤ cap2
  few : n2 < 1000000
  row : Row w G 4 ni (fun j => .bool (iv j))
  ok : ∀ j, j < ni → iv j = true → 288 * j + 320 ≤ n2
theorem SideAt.of_below {w u : World} {q2 : Option Addr} {n2 cap2 G ni : Nat} {sd : List (BitVec 8)} {iv : Nat → Bool} (h : SideAt w q2 n2 cap2 G ni sd iv) (k : Below w.heap.size w u) : SideAt u q2 n2 cap2 G ni sd iv := ⟨h.sl.of_below k, h.len, h.cap, h.few, h.row.of_below k, h.ok⟩
/-- What is known of the shards and of which of them may be used. -/
def ShOk (k : Nat) (hb : Nat → Bool) (ls : List (List (BitVec 8))) (us : List Bool) (n : Nat) : Prop :=
  ls.length = k + n ∧ us.length = k + n ∧ (∀ i, i < k → us.getD i false = hb i) ∧ (∀ i, i < k + n → us.getD i false = true → (ls.getD i []).length = 256) ∧ (∀ i, i < k + n → (ls.getD i []).length ≤ 256)
theorem ShOk.start (k : Nat) (hb : Nat → Bool) (a : Mx) : ShOk k hb (rowsL k 256 a) ((List.range k).map hb) 0 :=
  ⟨rowsL_length _ _ _, by simp, fun i hi => by simp [List.getD_eq_getElem?_getD, hi], fun i hi _ => rowsL_len _ _ _ _ hi, fun i hi => Nat.le_of_eq (rowsL_len _ _ _ _ hi)⟩
theorem ShOk.push {k n : Nat} {hb : Nat → Bool} {ls : List (List (BitVec 8))} {us : List Bool} (h : ShOk k hb ls us n) (l : List (BitVec 8)) (u : Bool) (h1 : u = true → l.length = 256) (h2 : l.length ≤ 256) : ShOk k hb (ls ++ [l]) (us ++ [u]) (n + 1) := by
  obtain ⟨a, b, c, d, e⟩ := h
  have g1 : ∀ i, i < k + n → (ls ++ [l]).getD i [] = ls.getD i [] := fun i hi => by simp [List.getD_eq_getElem?_getD, List.getElem?_append_left (show i < ls.length by omega)]
  have g2 : ∀ i, i < k + n → (us ++ [u]).getD i false = us.getD i false := fun i hi => by simp [List.getD_eq_getElem?_getD, List.getElem?_append_left (show i < us.length by omega)]
  have g3 : (ls ++ [l]).getD (k + n) [] = l := by rw [← a]; simp [List.getD_eq_getElem?_getD]
  have g4 : (us ++ [u]).getD (k + n) false = u := by rw [← b]; simp [List.getD_eq_getElem?_getD]
  refine ⟨by rw [List.length_append, a]; rfl, by rw [List.length_append, b]; rfl, fun i hi => by rw [g2 i (by omega)]; exact c i hi, fun i hi => ?_, fun i hi => ?_⟩
  · by_cases hin : i < k + n
    · rw [g1 i hin, g2 i hin]; exact d i hin
    · obtain rfl : i = k + n := by omega
      rw [g3, g4]; exact h1
  · by_cases hin : i < k + n
    · rw [g1 i hin]; exact e i hin
    · obtain rfl : i = k + n := by omega
      rw [g3]; exact h2
attribute [local go_sem ↓] exec_bs exec_slice
attribute [local go_sem] bsR bs1Bl bs1R
set_option maxRecDepth 100000 in
set_option maxHeartbeats 8000000 in
theorem shards12_any (b : Nat) (r : Rc) (ds : List (List (BitVec 8))) (cv : Value) (q2 : Option Addr) (n2 cap2 G ni ff k cap : Nat) (sl : List (BitVec 8)) (iv : Nat → Bool) (bs : List (List (BitVec 8))) (p : Option Addr) (w : World)
    (hM : Mdr w b r cv (.slice q2 n2 cap2) (.slice (some ⟨G, 0, none⟩) ni ni)) (hD : DgAt w r ds) (hS : SideAt w q2 n2 cap2 G ni sl iv) (hd : ds.length < 1000000) (hL : Lay w p bs) (hk : bs.length = k) (hk1 : 1 ≤ k) (hk4 : k ≤ 4) (hbl : ∀ i, i < bs.length → (bs.getD i []).length ≤ 256)
    (hff : ff + k ≤ ds.length) (hni : ff / 4 * 2 + 2 ≤ ni) (hni2 : ni < 1000000) (hT : Tb w) :
    Calls Tryz.prog 201 #[.pointer (some ⟨b, 0, none⟩), .int .i64 (ff : Int), .slice p k cap] w (fun e w' => ∃ M v1 v2 ls us, e = .returned (.tuple #[v1, v2]) ∧ Shd w' w.heap.size M v1 v2 ls us ∧ ShOk k (fun i => deq (digL (bs.getD i [])) (ds.getD (ff + i) [])) ls us 2 ∧ Below w.heap.size w w') := by
  have HPD := Lib.hid (padded12_any bs p k cap w hL hk (by omega) hbl)
  obtain ⟨hb, hhb⟩ : ∃ h : Nat → Bool, (fun j => deq (digL (bs.getD j [])) (ds.getD (ff + j) [])) = h := ⟨_, rfl⟩
  rw [hhb]
  have HAS := Lib.hid (show ∀ j, j < k → ∃ c o q n d, p = some ⟨c, o, none⟩ ∧ (∀ u, Below w.heap.size w u → u.cell? ⟨c, o + j, none⟩ = some (.slice q n d)) ∧ ∀ x u, ff + j = x → Below w.heap.size w u → Calls Tryz.prog 153 #[.pointer (some ⟨b, 0, none⟩), .int .i64 (x : Int), .slice q n d] u fun e w' => e = .returned (.bool (hb j)) ∧ Below u.heap.size u w' from fun j hj => by
    obtain ⟨c, o, q, d, e, hc, hs, -⟩ := hL j (by omega)
    refine ⟨c, o, q, _, d, e, fun u hu => by rw [hu.cell (by exact World.block_lt_of_cell? w _ hc)]; exact hc, fun x u hx hu => ?_⟩
    subst hx
    rw [← congrFun hhb j]
    exact has12_any b r ds _ _ _ (ff + j) (bs.getD j []) q _ d u (hM.of_below hu) (hD.of_below hu) (by omega) hd rfl (hs.of_below hu) (by have := hbl j (by omega); omega) (hT.on hu))
  have HM := Lib.hid hM
  have HS := Lib.hid hS
  have HEN := Lib.hid (show ∀ x, x < ni → iv x = true → ∃ c o, q2 = some ⟨c, o, none⟩ ∧ c < w.heap.size ∧ ∀ u, Below w.heap.size w u → Sl u (some ⟨c, o + (288 * x + 32), none⟩) (seg12 sl (288 * x + 32) 256) ∧ Calls Tryz.prog 200 #[.slice q2 n2 cap2, .int .i64 (x : Int)] u fun e w' => e = .returned (.tuple #[.slice (some ⟨c, o + (288 * x + 32), none⟩) 256 256, digV (seg12 sl (288 * x + 288) 32)]) ∧ Below u.heap.size u w' from fun x hx hi => by
    have h3 := hS.ok x hx hi
    obtain ⟨c, o, e, hc⟩ := hS.sl 0 (by have := hS.len; omega)
    refine ⟨c, o, e, World.block_lt_of_cell? w _ hc, fun u hu => ?_⟩
    have hsl := hS.sl.of_below hu
    rw [e] at hsl ⊢
    exact ⟨seg12_sl hsl _ _, entry_any sl c o n2 cap2 x u hS.len hsl hS.cap h3 hS.few⟩)
  have HSL := Lib.hid (show ∀ x, x < ni → iv x = true → (seg12 sl (288 * x + 32) 256).length = 256 from fun x hx hi => seg12_len (by have := hS.ok x hx hi; have := hS.len; omega))
  have HFF := Lib.hid (And.intro hff (And.intro hni (And.intro hd hni2)))
  clear hM hD hS hL hbl hT hhb hff hni hd hni2 hk
  go_enter Tryz.func201, Tryz.ntmps201
  go_wp2_with fail
  refine HPD.out.mono ?_
  rintro e w1 ⟨rfl, ⟨D, hMp⟩, hB⟩
  obtain ⟨v1, hv1⟩ : ∃ v : Value, v = .slice (some ⟨w.heap.size, 0, none⟩) k k := ⟨_, rfl⟩
  obtain ⟨M, hM⟩ : ∃ M, w1.heap.size = M := ⟨_, rfl⟩
  have HSH := Lib.hid (show Shd w1 w.heap.size M v1 (.slice none 0 0) (rowsL k 256 (padM bs)) [] from ⟨by rw [hv1, ← hM]; exact OwnQ.of_mp hMp (by omega), OwnBl.nil _ _, (fun g _ e => by cases e), by rw [← hM]; exact hB.size, by rw [← hM]; exact Nat.le_refl _⟩)
  have HB := Lib.hid hB
  have HV1 := Lib.hid hv1
  have HMM := Lib.hid hM
  clear hMp hB hM
  rw [← hv1]
  clear hv1 HPD
  go_wp2
  go_loopw [18, 7] (fun fi fu wr => ∃ (i : Nat) (v2 : Value), i ≤ k ∧ fi = .int .i64 (i : Int) ∧ fu = v2 ∧ Shd wr w.heap.size M v1 v2 (rowsL k 256 (padM bs)) ((List.range i).map hb) ∧ (∃ q c, v2 = .slice q i c) ∧ Below w.heap.size w wr) (fun fi _ _ => k - (intOf fi).toNat)
  case atStart => exact ⟨0, _, Nat.zero_le _, rfl, rfl, HSH.out, ⟨_, _, rfl⟩, HB.out⟩
  case round =>
    obtain ⟨i, v2, hi, rfl, rfl, hS2, ⟨qu, cu, rfl⟩, hB2⟩ := hrel
    have HS2 := Lib.hid hS2
    have HB2 := Lib.hid hB2
    by_cases hin : i < k
    · have z3 : (i : Int) < (k : Int) := by omega
      have z4 : decide ((i : Int) < (k : Int)) = true := decide_eq_true z3
      have z5 : (0 : Int) ≤ (i : Int) := by omega
      obtain ⟨c, o, q, n, d, rfl, hcel, hcal⟩ := HAS.out i hin
      have hc := hcel wr hB2
      obtain ⟨x, hx⟩ : ∃ x, ff + i = x := ⟨_, rfl⟩
      have HCA := Lib.hid (hcal x wr hx hB2)
      have HIN := Lib.hid hin
      have hw : IntKind.i64.wrap ((ff : Int) + (i : Int)) = (x : Int) := by rw [IntKind.wrap_i64]; have := HFF.out; omega
      clear hS2 hB2 hcel hcal hx
      go_wp2_with fail
      refine HCA.out.mono ?_
      rintro e w5 ⟨rfl, hB5⟩
      have hbn := below_newR w5 (.cells #[.bool (hb i)] 4)
      have hc5 : (w5.alloc (.cells #[.bool (hb i)] 4)).cell? ⟨w5.heap.size, 0, none⟩ = some (.bool (hb i)) := World.cell?_alloc_new _ _ _ _
      have hb6 := hB5.trans (hbn.mono hB5.size)
      have HS6 := Lib.hid (HS2.out.of_below hb6)
      have HB6 := Lib.hid (HB2.out.trans (hb6.mono HB2.out.size))
      clear hbn hb6 hB5 HCA
      go_wp2_with (first | (refine wpl_pushBl _ rfl (.tmp 23) (.tmp 30) rfl w.heap.size M v1 (.slice qu i cu) (rowsL k 256 (padM bs)) ((List.range i).map hb) rfl HS6.out w5.heap.size 0 rfl (hb i) hc5 i (by simp) (by omega) ?_; rintro q7 c7 w7 hS7 hg7 hk7; have HS7 := Lib.hid hS7; have HG7 := Lib.hid hg7; have HK7 := Lib.hid hk7; clear hS7 hg7 hk7))
      go_roundw
      case rel => exact ⟨i + 1, _, by have := HIN.out; omega, by go_num, rfl, by rw [List.range_succ, List.map_append]; exact HS7.out, ⟨_, _, rfl⟩, HB6.out.grown HG7.out HB6.out.size (fun g hg => Nat.le_trans HS2.out.low (HK7.out g hg).1)⟩
      case measure => have := HIN.out; simp [intOf]; omega
    · have z3 : ¬ (i : Int) < (k : Int) := by omega
      have z4 : decide ((i : Int) < (k : Int)) = false := decide_eq_false z3
      obtain rfl : i = k := by omega
      obtain ⟨fq, hfq⟩ : ∃ x, ff / 4 = x := ⟨_, rfl⟩
      obtain ⟨at0, ha⟩ : ∃ x, fq * 2 = x := ⟨_, rfl⟩
      have wfq : IntKind.i64.wrap ((ff : Int) / 4) = (fq : Int) := by have := HFF.out; rw [IntKind.wrap_i64]; omega
      have w0 : IntKind.i64.wrap ((fq : Int) * 2) = (at0 : Int) := by have := HFF.out; rw [IntKind.wrap_i64]; omega
      have w2 : IntKind.i64.wrap ((at0 : Int) + 2) = ((at0 + 2 : Nat) : Int) := by have := HFF.out; rw [IntKind.wrap_i64]; omega
      have hin : wr.cell? ⟨b, 56, none⟩ = some (.slice (some ⟨G, 0, none⟩) ni ni) := (HM.out.of_below hB2).intact
      have wn1 : (at0 : Int) + 2 ≤ (ni : Int) := by have := HFF.out; omega
      have s0 : ∀ u, (slT 85 (.slice (some ⟨G, 0, none⟩) ni ni) (some (.int .i64 (at0 : Int))) (some (.int .i64 ((at0 : Int) + 2))) none).run Tryz.prog u = .ok (.value (.slice (some ⟨G, at0, none⟩) 2 (ni - at0))) u := fun u => by
        have h := sl_lhB12 G 0 ni ni at0 (at0 + 2) 2 u rfl (by have := HFF.out; omega) (by have := HFF.out; omega)
        rw [Nat.zero_add] at h
        exact h
      have HA := Lib.hid (show at0 + 2 ≤ ni from by have := HFF.out; omega)
      have HOK := Lib.hid (show ShOk i hb (rowsL i 256 (padM bs)) ((List.range i).map hb) 0 from ShOk.start _ _ _)
      clear hS2 hB2 ha hfq
      go_wp2
      obtain ⟨us0, hus0⟩ : ∃ x, (List.range i).map hb = x := ⟨_, rfl⟩
      obtain ⟨ls0, hls0⟩ : ∃ x, rowsL i 256 (padM bs) = x := ⟨_, rfl⟩
      have HI2 := Lib.hid (show Shd wr w.heap.size M v1 (.slice qu i cu) ls0 us0 ∧ ShOk i hb ls0 us0 0 ∧ Below w.heap.size w wr from by rw [← hus0, ← hls0]; exact ⟨HS2.out, HOK.out, HB2.out⟩)
      clear hus0 hls0
      go_loopw [45, 6, 7] (fun fi fr fu wr => ∃ (j : Nat) (v3 v4 : Value) (ls : List (List (BitVec 8))) (us : List Bool), j ≤ 2 ∧ fi = .int .i64 (j : Int) ∧ fr = v3 ∧ fu = v4 ∧ Shd wr w.heap.size M v3 v4 ls us ∧ ShOk i hb ls us j ∧ (∃ q c, v3 = .slice q (i + j) c) ∧ (∃ q c, v4 = .slice q (i + j) c) ∧ Below w.heap.size w wr) (fun fi _ _ _ => 2 - (intOf fi).toNat)
      case atStart => exact ⟨0, v1, _, ls0, us0, by omega, rfl, rfl, rfl, HI2.out.1, HI2.out.2.1, ⟨_, _, HV1.out⟩, ⟨_, _, rfl⟩, HI2.out.2.2⟩
      case round =>
        obtain ⟨j, v3, v4, ls, us, hj, rfl, rfl, rfl, hS3, hok3, ⟨q3, c3, rfl⟩, ⟨q4, c4, rfl⟩, hB3⟩ := hrel
        have HS3 := Lib.hid hS3
        have HB3 := Lib.hid hB3
        have HO3 := Lib.hid hok3
        by_cases hj2 : j < 2
        · have z7 : (j : Int) < 2 := by omega
          have z8 : decide ((j : Int) < 2) = true := decide_eq_true z7
          have z9 : (0 : Int) ≤ (j : Int) := by omega
          obtain ⟨x, hx⟩ : ∃ x, at0 + j = x := ⟨_, rfl⟩
          have hcell : wr.cell? ⟨G, at0 + j, none⟩ = some (.bool (iv x)) := by rw [hx]; exact (HS.out.of_below hB3).row.cell x (by have := HA.out; omega)
          have hside : wr.cell? ⟨b, 55, none⟩ = some (.slice q2 n2 cap2) := (HM.out.of_below hB3).side
          have hwx : IntKind.i64.wrap ((at0 : Int) + (j : Int)) = (x : Int) := by rw [IntKind.wrap_i64]; have := HFF.out; have := HA.out; omega
          have HX := Lib.hid (show x < ni from by have := HA.out; omega)
          have HJ2 := Lib.hid hj2
          clear hS3 hB3 hok3 hx
          rcases hb1 : iv x with _ | _
          · rw [hb1] at hcell
            clear hb1
            have hbn := below_newR wr (.cells #[.slice none 0 0] 53)
            have hc5 : (wr.alloc (.cells #[.slice none 0 0] 53)).cell? ⟨wr.heap.size, 0, none⟩ = some (.slice none 0 0) := World.cell?_alloc_new _ _ _ _
            have HS5 := Lib.hid (HS3.out.of_below hbn)
            have HB5 := Lib.hid (HB3.out.trans (hbn.mono HB3.out.size))
            clear hbn
            go_wp2_with (first | (refine wpl_pushQ _ rfl (.tmp 62) (.tmp 64) rfl w.heap.size M (.slice q3 (i + j) c3) (.slice q4 (i + j) c4) ls us rfl HS5.out ⟨wr.heap.size, 0, none⟩ rfl none [] 0 0 hc5 rfl (fun _ => rfl) (Nat.le_refl _) (fun t ht => absurd ht (by omega)) (i + j) HO3.out.1 (by omega) ?_; rintro g7 c7 w7 hS7 hg7 hk7 ho7; have HS7 := Lib.hid hS7; have HB7 := Lib.hid (HB5.out.grown hg7 HB5.out.size (fun g hg => (hk7 g hg).1)); clear hS7 hg7 hk7 ho7; have hb8 := below_newR w7 (.cells #[.bool false] 4); have hc8 : (w7.alloc (.cells #[.bool false] 4)).cell? ⟨w7.heap.size, 0, none⟩ = some (.bool false) := World.cell?_alloc_new _ _ _ _; have HS8 := Lib.hid (HS7.out.of_below hb8); have HB8 := Lib.hid (HB7.out.trans (hb8.mono HB7.out.size)); clear hb8) | (refine wpl_pushBl _ rfl (.tmp 66) (.tmp 68) rfl w.heap.size M (.slice (some ⟨g7, 0, none⟩) (i + j + 1) c7) (.slice q4 (i + j) c4) _ us rfl HS8.out w7.heap.size 0 rfl false hc8 (i + j) HO3.out.2.1 (by omega) ?_; rintro q9 c9 w9 hS9 hg9 hk9; have HS9 := Lib.hid hS9; have HB9 := Lib.hid (HB8.out.grown hg9 HB8.out.size (fun g hg => Nat.le_trans HS8.out.low (hk9 g hg).1)); clear hS9 hg9 hk9))
            go_roundw
            case rel => exact ⟨j + 1, _, _, ls ++ [[]], us ++ [false], by have := HJ2.out; omega, by go_num, rfl, rfl, HS9.out, HO3.out.push [] false (fun h => by cases h) (by decide), ⟨_, _, rfl⟩, ⟨_, _, rfl⟩, HB9.out⟩
            case measure => have := HJ2.out; simp [intOf]; omega
          · obtain ⟨c, o, rfl, hcw, hent⟩ := HEN.out x HX.out hb1
            obtain ⟨-, hent2⟩ := hent wr HB3.out
            obtain ⟨es, hes⟩ : ∃ y, seg12 sl (288 * x + 32) 256 = y := ⟨_, rfl⟩
            obtain ⟨ed, hed⟩ : ∃ y, seg12 sl (288 * x + 288) 32 = y := ⟨_, rfl⟩
            obtain ⟨eO, heo⟩ : ∃ y, o + (288 * x + 32) = y := ⟨_, rfl⟩
            have HEL := Lib.hid (show es.length = 256 from by rw [← hes]; exact HSL.out x HX.out hb1)
            have HES := Lib.hid (show ∀ u, Below w.heap.size w u → Sl u (some ⟨c, eO, none⟩) es from fun u hu => by have := (hent u hu).1; rw [hes, heo] at this; exact this)
            have HEC := Lib.hid (show c < w.heap.size from hcw)
            rw [heo, hed] at hent2
            have HE2 := Lib.hid hent2
            rw [hb1] at hcell
            clear hent hent2 hes heo hcw hb1 hed
            go_wp2_with fail
            refine HE2.out.mono ?_
            rintro e w5 ⟨rfl, hB5⟩
            have HB4 := Lib.hid (HB3.out.trans (hB5.mono HB3.out.size))
            have HS4 := Lib.hid (HS3.out.of_below hB5)
            clear hB5 HE2
            have hbn := below_newR w5 (.cells #[.slice (some ⟨c, eO, none⟩) 256 256] 53)
            have hc5 : (w5.alloc (.cells #[.slice (some ⟨c, eO, none⟩) 256 256] 53)).cell? ⟨w5.heap.size, 0, none⟩ = some (.slice (some ⟨c, eO, none⟩) 256 256) := World.cell?_alloc_new _ _ _ _
            have HS5 := Lib.hid (HS4.out.of_below hbn)
            have HB5 := Lib.hid (HB4.out.trans (hbn.mono HB4.out.size))
            have HSG := Lib.hid (show ∀ t, t < 256 → ∃ c1 o, (some ⟨c, eO, none⟩ : Option Addr) = some ⟨c1, o, none⟩ ∧ c1 < M ∧ (Value.slice q3 (i + j) c3).ownBlock ≠ some c1 ∧ (w5.alloc (.cells #[.slice (some ⟨c, eO, none⟩) 256 256] 53)).cell? ⟨c1, o + t, none⟩ = some (B (es.getD t 0#8)) from fun t ht => by
              obtain ⟨c1, o, e, hx⟩ := (HES.out _ HB5.out) t (by rw [HEL.out]; exact ht)
              have hcc : c = c1 := by injection e with e; injection e
              refine ⟨c1, o, e, by have := HEC.out; have := HS5.out.low; omega, fun e2 => ?_, hx⟩
              have := (HS5.out.rows.lt c1 e2).1
              have := HEC.out
              omega)
            clear hbn
            go_wp2_with (first | (refine wpl_pushQ _ rfl (.tmp 62) (.tmp 64) rfl w.heap.size M (.slice q3 (i + j) c3) (.slice q4 (i + j) c4) ls us rfl HS5.out ⟨w5.heap.size, 0, none⟩ rfl (some ⟨c, eO, none⟩) es 256 256 hc5 HEL.out (fun e => by cases e) (Nat.le_refl _) HSG.out (i + j) HO3.out.1 (by omega) ?_; rintro g7 c7 w7 hS7 hg7 hk7 ho7; have HS7 := Lib.hid hS7; have HB7 := Lib.hid (HB5.out.grown hg7 HB5.out.size (fun g hg => (hk7 g hg).1)); clear hS7 hg7 hk7 ho7; have hb8 := below_newR w7 (.cells #[.bool true] 4); have hc8 : (w7.alloc (.cells #[.bool true] 4)).cell? ⟨w7.heap.size, 0, none⟩ = some (.bool true) := World.cell?_alloc_new _ _ _ _; have HS8 := Lib.hid (HS7.out.of_below hb8); have HB8 := Lib.hid (HB7.out.trans (hb8.mono HB7.out.size)); clear hb8) | (refine wpl_pushBl _ rfl (.tmp 66) (.tmp 68) rfl w.heap.size M (.slice (some ⟨g7, 0, none⟩) (i + j + 1) c7) (.slice q4 (i + j) c4) _ us rfl HS8.out w7.heap.size 0 rfl true hc8 (i + j) HO3.out.2.1 (by omega) ?_; rintro q9 c9 w9 hS9 hg9 hk9; have HS9 := Lib.hid hS9; have HB9 := Lib.hid (HB8.out.grown hg9 HB8.out.size (fun g hg => Nat.le_trans HS8.out.low (hk9 g hg).1)); clear hS9 hg9 hk9))
            go_roundw
            case rel => exact ⟨j + 1, _, _, ls ++ [es], us ++ [true], by have := HJ2.out; omega, by go_num, rfl, rfl, HS9.out, HO3.out.push es true (fun _ => HEL.out) (Nat.le_of_eq HEL.out), ⟨_, _, rfl⟩, ⟨_, _, rfl⟩, HB9.out⟩
            case measure => have := HJ2.out; simp [intOf]; omega
        · obtain rfl : j = 2 := by omega
          have z7 : ¬ ((2 : Nat) : Int) < 2 := by omega
          clear hS3 hB3 hok3
          go_wp2
          go_ret2
          exact ⟨M, _, _, rfl, ls, us, HS3.out, HO3.out, HB3.out⟩
end Go.Proofs.YtnmopjefjpifoaaGreatDoor
/- sidecar.firstOf: which of some bools are true in its answer were true. -/
set_option maxRecDepth 100000
namespace Go.Proofs.YtnmopjefjpifoaaGreatDoor
open Go Go.RowKit
attribute [-go_sem] Sha.exec_store

set_option maxRecDepth 100000 in
set_option maxHeartbeats 4000000 in
theorem firstOf12_any (l : List Bool) (p : Addr) (n cap k : Nat) (w : World) (hl : l.length = n) (hs : Bl w (some p) l) (h0 : 0 < n) (hn : n < 1000) (hk : k < 1000) :
    Calls Tryz.prog 203 #[.slice (some p) n cap, .int .i64 (k : Int)] w (fun e w' => ∃ q cp th, e = .returned (.slice q n cp) ∧ th.length = n ∧ Bl w' q th ∧ (∀ i, i < n → th.getD i false = true → l.getD i false = true) ∧ Below w.heap.size w w') := by
  have HC := Lib.hid (cloneBl_any l p n cap w hl hs (by omega))
  have HL := Lib.hid hl
  clear hs hl
  go_enter Tryz.func203, Tryz.ntmps203
  go_wp2_with fail
  refine HC.out.mono ?_
  rintro e w1 ⟨v, rfl, hO, hB⟩
  obtain ⟨G, cp, f, rfl, hG, hcp, hR, hf⟩ := hO.row (by rw [HL.out]; exact h0)
  rw [HL.out] at hcp hf ⊢
  obtain ⟨ut, hut⟩ : ∃ u : Nat → Bool, ∀ j, l.getD j false = u j := ⟨_, fun _ => rfl⟩
  have HUT := Lib.hid hut
  have HR := Lib.hid hR
  have HF := Lib.hid (show ∀ j, j < n → f j = .bool (ut j) from fun j hj => by rw [hf j hj, hut])
  have HB := Lib.hid hB
  have HG := Lib.hid hG
  have HCP := Lib.hid hcp
  clear hR hf hB hG HC hO hcp hut
  go_wp2
  go_loopw [11, 1] (fun fi fk wr => ∃ (i : Nat) (kk : Int) (g : Nat → Value) (t : Nat → Bool), i ≤ n ∧ fi = .int .i64 (i : Int) ∧ fk = .int .i64 kk ∧ 0 ≤ kk ∧ kk ≤ 1000 ∧ Row wr G 4 cp g ∧ (∀ j, j < n → g j = .bool (t j)) ∧ (∀ j, j < n → t j = true → ut j = true) ∧ Below w.heap.size w wr) (fun fi _ _ => n - (intOf fi).toNat)
  case atStart => exact ⟨0, k, f, ut, Nat.zero_le _, rfl, rfl, by omega, by omega, HR.out, HF.out, fun _ _ h => h, HB.out⟩
  case round =>
    obtain ⟨i, kk, g, t, hi, rfl, rfl, hk0, hk1, hR2, hg2, hT2, hB2⟩ := hrel
    by_cases hin : i < n
    · have z3 : (i : Int) < (n : Int) := by omega
      have z4 : decide ((i : Int) < (n : Int)) = true := decide_eq_true z3
      have hgc := hR2.cell i (by have := HCP.out; omega)
      have hgf := hR2.free i
      rw [hg2 i hin] at hgc
      have HR2 := Lib.hid hR2
      have HG2 := Lib.hid hg2
      have HT2 := Lib.hid hT2
      have HB2 := Lib.hid hB2
      clear hR2 hg2 hT2 hB2
      have fin : ∀ (b : Bool) (kx : Int), 0 ≤ kx → kx ≤ 1000 → (b = true → ut i = true) → (∃ (i_1 : Nat) (kk : Int) (g : Nat → Value) (t : Nat → Bool), i_1 ≤ n ∧ Value.int .i64 ((i : Int) + 1) = .int .i64 (i_1 : Int) ∧ Value.int .i64 kx = .int .i64 kk ∧ 0 ≤ kk ∧ kk ≤ 1000 ∧ Row (wr.setCell ⟨G, i, none⟩ (.bool b)) G 4 cp g ∧ (∀ j, j < n → g j = .bool (t j)) ∧ (∀ j, j < n → t j = true → ut j = true) ∧ Below w.heap.size w (wr.setCell ⟨G, i, none⟩ (.bool b))) := fun b kx h0 h1 hb => by
        refine ⟨i + 1, kx, _, fun j => if j = i then b else t j, by omega, by go_num, rfl, h0, h1, HR2.out.set i (.bool b), fun j hj => ?_, fun j hj => ?_, HB2.out.setCell (show w.heap.size ≤ (⟨G, i, none⟩ : Addr).block from HG.out) (.bool b)⟩
        · by_cases hji : j = i
          · simp [hji]
          · simp [hji, HG2.out j hj]
        · by_cases hji : j = i
          · subst hji
            simpa using hb
          · simpa [hji] using HT2.out j hj
      have FIN := Lib.hid fin
      clear fin
      have HIN := Lib.hid hin
      rcases hb : t i with _ | _
      · rw [hb] at hgc
        clear hb
        go_wp2
        go_roundw
        case rel => exact FIN.out false kk hk0 hk1 (fun h => by cases h)
        case measure => have := HIN.out; simp [intOf]; omega
      · have hLi := Lib.hid (HT2.out i hin hb)
        rw [hb] at hgc
        clear hb
        by_cases hkp : 0 < kk
        · have z5 : decide (0 < kk) = true := decide_eq_true hkp
          have hk3 : IntKind.i64.wrap (kk - 1) = kk - 1 := by rw [IntKind.wrap_i64]; omega
          go_wp2
          go_roundw
          case rel => exact FIN.out true (kk - 1) (by omega) (by omega) (fun _ => hLi.out)
          case measure => have := HIN.out; simp [intOf]; omega
        · have z5 : decide (0 < kk) = false := decide_eq_false hkp
          go_wp2
          go_roundw
          case rel => exact FIN.out false kk hk0 hk1 (fun h => by cases h)
          case measure => have := HIN.out; simp [intOf]; omega
    · have z3 : ¬ (i : Int) < (n : Int) := by omega
      have z4 : decide ((i : Int) < (n : Int)) = false := decide_eq_false z3
      have HR2 := Lib.hid hR2
      have HG2 := Lib.hid hg2
      have HT2 := Lib.hid hT2
      have HB2 := Lib.hid hB2
      clear hR2 hg2 hT2 hB2
      go_wp2
      go_ret
      have e1 : ((List.range n).map t).length = n := by simp
      have e2 : ∀ j, j < n → ((List.range n).map t).getD j false = t j := fun j hj => by simp [List.getD_eq_getElem?_getD, hj]
      refine ⟨some ⟨G, 0, none⟩, ⟨cp, rfl⟩, (List.range n).map t, e1, fun j hj => ⟨G, 0, rfl, ?_⟩, fun j hj => ?_, HB2.out⟩
      · rw [e1] at hj
        rw [Nat.zero_add, HR2.out.cell j (by have := HCP.out; omega), HG2.out j hj, e2 j hj]
      · have h1 := e2 j hj
        have h2 := HUT.out j
        rw [List.getD_eq_getElem?_getD] at h1 h2
        rw [h1, h2]
        exact HT2.out j hj
end Go.Proofs.YtnmopjefjpifoaaGreatDoor
/- The program's where: the numbers at which a predicate holds. -/
set_option maxRecDepth 100000
namespace Go.Proofs.YtnmopjefjpifoaaGreatDoor
open Go Go.RowKit
attribute [-go_sem] Sha.exec_store

/-- The numbers below n at which f holds, in order. -/
def pick (f : Nat → Bool) (n : Nat) : List Nat := (List.range n).filter f
theorem pick_yes {f : Nat → Bool} {n : Nat} (h : f n = true) : pick f (n + 1) = pick f n ++ [n] := by simp [pick, List.range_succ, List.filter_append, h]
theorem pick_no {f : Nat → Bool} {n : Nat} (h : f n = false) : pick f (n + 1) = pick f n := by simp [pick, List.range_succ, List.filter_append, h]
theorem pick_len (f : Nat → Bool) (n : Nat) : (pick f n).length ≤ n := by
  have := List.length_filter_le f (List.range n)
  rwa [List.length_range] at this
theorem pick_mem {f : Nat → Bool} {n i : Nat} : i ∈ pick f n ↔ i < n ∧ f i = true := by simp [pick, List.mem_filter]
theorem getD_mem (l : List Nat) (i : Nat) (h : i < l.length) : l.getD i 0 ∈ l := by
  rw [List.getD_eq_getElem?_getD, List.getElem?_eq_getElem h]
  exact List.getElem_mem h
theorem pick_at {f : Nat → Bool} {n : Nat} (i : Nat) (h : i < (pick f n).length) : (pick f n).getD i 0 < n ∧ f ((pick f n).getD i 0) = true := pick_mem.1 (getD_mem _ _ h)
theorem pick_inj (f : Nat → Bool) (n i j : Nat) (hi : i < (pick f n).length) (hj : j < (pick f n).length) (h : (pick f n).getD i 0 = (pick f n).getD j 0) : i = j := by
  have hd : (pick f n).Nodup := List.nodup_range.filter _
  rw [List.getD_eq_getElem?_getD, List.getD_eq_getElem?_getD, List.getElem?_eq_getElem hi, List.getElem?_eq_getElem hj] at h
  simp only [Option.getD_some] at h
  exact (List.getElem_inj hd).1 h
theorem pick_find {f : Nat → Bool} {n i : Nat} (hi : i < n) (h : f i = true) : ∃ t, t < (pick f n).length ∧ (pick f n).getD t 0 = i := by
  obtain ⟨t, ht, e⟩ := List.getElem_of_mem (pick_mem.2 ⟨hi, h⟩)
  exact ⟨t, ht, by rw [List.getD_eq_getElem?_getD, List.getElem?_eq_getElem ht]; exact e⟩
/-- What such a slice reads as. -/
theorem OwnIV.shape {w : World} {base : Nat} {v : Value} {l : List Nat} (h : OwnIV w base v l) : ∃ p cap, v = .slice p l.length cap ∧ l.length ≤ cap ∧ (l ≠ [] → ∃ g, p = some ⟨g, 0, none⟩ ∧ g < w.heap.size ∧ ∀ j, j < l.length → w.cell? ⟨g, j, none⟩ = some (.int .i64 ((l.getD j 0 : Nat) : Int))) := by
  rcases h.2 with ⟨hv, hl⟩ | ⟨g, cap, cur, hv, _, hg, hle, _, hsz, ht⟩
  · refine ⟨none, 0, by rw [hv, hl], by omega, fun hne => ?_⟩
    exact absurd (List.eq_nil_of_length_eq_zero hl) hne
  · refine ⟨some ⟨g, 0, none⟩, cap, hv, hle, fun _ => ⟨g, rfl, ?_, fun j hj => ?_⟩⟩
    · exact (h.lt g (by rw [hv]; rfl)).2
    · rw [cell_of_row w g j cur 3 (0, 0) hg]
      have h1 : (cur.toList.take (l.length * 1))[j]? = (l.map vI)[j]? := by rw [ht]
      rw [List.getElem?_take, if_pos (by omega)] at h1
      simpa [hj, vI] using h1
/-- A predicate that is asked, wherever nothing that was there has changed. -/
def AskI (g : Nat) (lb : Array Value) (n : Nat) (f : Nat → Bool) (w : World) : Prop :=
  ∀ i, i < n → ∀ w', Below w.heap.size w w' → Calls Tryz.prog g (#[.int .i64 (i : Int)] ++ lb) w' fun e w'' => e = .returned (.bool (f i)) ∧ w' = w''
attribute [local go_sem ↓] exec_bs
attribute [local go_sem] bs1I
set_option maxHeartbeats 4000000 in
theorem where_any (g : Nat) (lb : Array Value) (eg : ∀ args w, (callFunc g args).run Tryz.prog w = .ok (.enter g args) w) (n : Nat) (f : Nat → Bool) (w : World) (hp : AskI g lb n f w) (hn : n < 1000) :
    Calls Tryz.prog 233 #[.int .i64 (n : Int), .func (.func g) #[] lb] w fun e w' => ∃ v, e = .returned v ∧ OwnIV w' w.heap.size v (pick f n) ∧ Below w.heap.size w w' := by
  have HP := Lib.hid hp
  clear hp
  go_enter Tryz.func233, Tryz.ntmps233
  go_wp2
  generalize hN : w.heap.size = N at *
  have HN := Lib.hid hN
  clear hN
  go_loopw [5, 6, 8] (fun v _ i wr => ∃ k : Nat, k ≤ n ∧ i = .int .i64 k ∧ OwnIV wr N v (pick f k) ∧ Below N w wr) (fun _ _ i _ => n - (intOf i).toNat)
  case atStart => exact ⟨0, Nat.zero_le _, rfl, OwnIV.nil w N, Below.refl _ _⟩
  case round =>
    obtain ⟨k, hk, rfl, hO, hB⟩ := hrel
    have hNle : N ≤ wr.heap.size := by have := hB.size; have := HN.out; omega
    have HO := Lib.hid hO
    have HB := Lib.hid hB
    obtain ⟨pv, cv, hv, -, -⟩ := hO.shape
    obtain ⟨len, hlen⟩ : ∃ len, len = (pick f k).length := ⟨_, rfl⟩
    have hlk : len ≤ k := by rw [hlen]; exact pick_len f k
    rw [← hlen] at hv
    subst hv
    have HLEN := Lib.hid hlen
    clear hO hB hlen
    by_cases hlt : k < n
    · have hltz : (k : Int) < (n : Int) := by omega
      have hd0 : decide ((k : Int) < (n : Int)) = true := decide_eq_true hltz
      have hcall := HP.out k hlt wr (by rw [HN.out]; exact HB.out)
      have HYES := Lib.hid (fun h : f k = true => pick_yes h)
      have HNO := Lib.hid (fun h : f k = false => pick_no h)
      cases hf : f k with
      | true =>
        rw [hf] at hcall
        have HC := Lib.hid hcall
        have HF := Lib.hid hf
        clear hcall hf
        have hB1 : Below wr.heap.size wr (wr.alloc (.cells #[.int .i64 (k : Int)] 3)) := (Below.refl _ _).alloc (Nat.le_refl _) _
        have HO1 := Lib.hid (HO.out.of_below hB1)
        have HB1 := Lib.hid (HB.out.trans (hB1.mono hNle))
        have hN1 : N ≤ (wr.alloc (.cells #[.int .i64 (k : Int)] 3)).heap.size := Nat.le_trans hNle hB1.size
        have HX1 := Lib.hid (show (wr.alloc (.cells #[.int .i64 (k : Int)] 3)).cell? ⟨wr.heap.size, 0, none⟩ = some (.int .i64 (k : Int)) by rw [World.cell?_alloc_new]; rfl)
        clear hB1
        go_wp2_with fail
        refine HC.out.mono ?_
        rintro e w' ⟨rfl, rfl⟩
        go_wp2_with (first | (refine wpl_pushI _ rfl (.tmp 14) (.tmp 16) rfl N (.slice pv len cv) (pick f k) rfl HO1.out ⟨wr.heap.size, 0, none⟩ rfl k HX1.out len HLEN.out.symm (by omega) hN1 ?_; rintro g7 d7 w7 hO7 hg7 ho7; have HO7 := Lib.hid hO7; have HB7 := Lib.hid (HB1.out.grown hg7 hN1 (fun g hg => (HO1.out.lt g hg).1)); clear hO7 hg7 ho7))
        go_roundw
        case rel => exact ⟨k + 1, by omega, by go_num, by rw [HYES.out HF.out]; exact HO7.out, HB7.out⟩
        case measure => simp [intOf]; omega
      | false =>
        rw [hf] at hcall
        have HC := Lib.hid hcall
        have HF := Lib.hid hf
        clear hcall hf
        go_wp2_with fail
        refine HC.out.mono ?_
        rintro e w' ⟨rfl, rfl⟩
        go_wp2
        go_roundw
        case rel => exact ⟨k + 1, by omega, by go_num, by rw [HNO.out HF.out]; exact HO.out, HB.out⟩
        case measure => simp [intOf]; omega
    · have hd0 : decide ((k : Int) < (n : Int)) = false := decide_eq_false (by omega)
      obtain rfl : k = n := by omega
      go_wp2
      go_ret
      refine ⟨_, rfl, ?_, ?_⟩
      · rw [HN.out]; exact HO.out
      · rw [HN.out]; exact HB.out
end Go.Proofs.YtnmopjefjpifoaaGreatDoor
/- Predicates of numbers that the program asks: of lists of numbers, of the shards that are there. -/
set_option maxRecDepth 100000
namespace Go.Proofs.YtnmopjefjpifoaaGreatDoor
open Go Go.RowKit
attribute [-go_sem] Sha.exec_store

/-- The ints that lie where a slice of their number begins. -/
def Il (w : World) (q : Option Addr) (l : List Nat) : Prop := ∀ j, j < l.length → ∃ g, q = some ⟨g, 0, none⟩ ∧ g < w.heap.size ∧ w.cell? ⟨g, j, none⟩ = some (.int .i64 ((l.getD j 0 : Nat) : Int))
theorem Il.of_below {w w' : World} {q : Option Addr} {l : List Nat} (h : Il w q l) (k : Below w.heap.size w w') : Il w' q l := fun j hj => by
  obtain ⟨g, e, hg, hc⟩ := h j hj
  exact ⟨g, e, Nat.lt_of_lt_of_le hg k.size, by rw [k.cell (by exact hg)]; exact hc⟩
theorem Il.dr {w w' : World} {q : Option Addr} {l : List Nat} (h : Il w q l) (k : Dr w w') : Il w' q l := h.of_below (k.below _)
theorem Il.take {w : World} {q : Option Addr} {l : List Nat} (h : Il w q l) (k : Nat) : Il w q (l.take k) := fun j hj => by
  have hj' : j < k ∧ j < l.length := by simp [List.length_take] at hj; omega
  obtain ⟨g, e, hg, hc⟩ := h j hj'.2
  refine ⟨g, e, hg, ?_⟩
  rw [hc]
  simp [List.getD_eq_getElem?_getD, hj'.1]
theorem OwnIV.il {w : World} {base : Nat} {v : Value} {l : List Nat} (h : OwnIV w base v l) : ∃ p cap, v = .slice p l.length cap ∧ Il w p l ∧ l.length ≤ cap := by
  obtain ⟨p, cap, h1, h2, h3⟩ := h.shape
  refine ⟨p, cap, h1, fun j hj => ?_, h2⟩
  obtain ⟨g, e, hg, hc⟩ := h3 (fun e => by rw [e] at hj; simp at hj)
  exact ⟨g, e, hg, hc j hj⟩
/-- A predicate of ints: asked of the ints that are listed, at this world but for draws. -/
def AsksI (g : Nat) (lb : Array Value) (l : List Nat) (f : Nat → Bool) (w : World) : Prop :=
  ∀ j, j < l.length → ∀ w', Dr w w' → Calls Tryz.prog g (#[.int .i64 ((l.getD j 0 : Nat) : Int)] ++ lb) w' fun e w'' => e = .returned (.bool (f j)) ∧ Dr w' w''
section
variable (g : Nat) (lb : Array Value) (eg : ∀ args w, (callFunc g args).run Tryz.prog w = .ok (.enter g args) w) (l : List Nat) (f : Nat → Bool) (p : Option Addr) (n cap : Nat) (w : World) (hp : AsksI g lb l f w) (hs : Il w p l) (hl : l.length = n) (hn : n < 4294967296)
include eg hp hs hl hn
set_option maxHeartbeats 2000000 in
theorem indexI_hit (t : Nat) (ht : Hit f n t) : Calls Tryz.prog 277 #[.slice p n cap, .func (.func g) #[] lb] w fun e w' => e = .returned (.int .i64 (t : Int)) ∧ Dr w w' := by
  have HP := Lib.hid hp
  have HS := Lib.hid hs
  have HL := Lib.hid hl
  have HT := Lib.hid ht
  clear hp hs hl ht
  go_enter Tryz.func277, Tryz.ntmps277
  go_wp2
  go_loopw [5, 8] (fun _ i wr => ∃ k : Nat, k ≤ t ∧ i = .int .i64 k ∧ Dr w wr) (fun _ i _ => n - (intOf i).toNat)
  case atStart => exact ⟨0, Nat.zero_le _, rfl, Dr.refl _⟩
  case round =>
    obtain ⟨k, hk, rfl, hD⟩ := hrel
    have HD := Lib.hid hD
    clear hD
    have htn := HT.out.1
    have hlt : k < n := by omega
    have hltz : (k : Int) < (n : Int) := by omega
    have hd0 : decide ((k : Int) < (n : Int)) = true := decide_eq_true hltz
    obtain ⟨c, rfl, -, hc⟩ := (HS.out.dr HD.out) k (by rw [HL.out]; exact hlt)
    have hcall := HP.out k (by rw [HL.out]; exact hlt) wr HD.out
    generalize l.getD k 0 = u at *
    by_cases he : k = t
    · rw [show f k = true by rw [he]; exact HT.out.2.1] at hcall
      have HE := Lib.hid he
      clear he
      have HC := Lib.hid hcall
      clear hcall
      go_wp2_with fail
      refine HC.out.mono ?_
      rintro e w' ⟨rfl, hD'⟩
      have HD2 := Lib.hid (HD.out.trans hD')
      clear hD'
      go_wp2
      go_ret
      exact ⟨by rw [← HE.out]; rfl, HD2.out⟩
    · rw [show f k = false from HT.out.2.2 k (by omega)] at hcall
      have HC := Lib.hid hcall
      clear hcall
      go_wp2_with fail
      refine HC.out.mono ?_
      rintro e w' ⟨rfl, hD'⟩
      have HD2 := Lib.hid (HD.out.trans hD')
      clear hD'
      go_wp2
      go_roundw
      case rel => exact ⟨k + 1, by omega, by go_num, HD2.out⟩
      case measure => simp [intOf]; omega
set_option maxHeartbeats 2000000 in
theorem indexI_miss (ht : Miss f n) : Calls Tryz.prog 277 #[.slice p n cap, .func (.func g) #[] lb] w fun e w' => e = .returned (.int .i64 (-1)) ∧ Dr w w' := by
  have HP := Lib.hid hp
  have HS := Lib.hid hs
  have HL := Lib.hid hl
  have HT := Lib.hid ht
  clear hp hs hl ht
  go_enter Tryz.func277, Tryz.ntmps277
  go_wp2
  go_loopw [5, 8] (fun _ i wr => ∃ k : Nat, k ≤ n ∧ i = .int .i64 k ∧ Dr w wr) (fun _ i _ => n - (intOf i).toNat)
  case atStart => exact ⟨0, Nat.zero_le _, rfl, Dr.refl _⟩
  case round =>
    obtain ⟨k, hk, rfl, hD⟩ := hrel
    have HD := Lib.hid hD
    clear hD
    by_cases hlt : k < n
    · have hltz : (k : Int) < (n : Int) := by omega
      have hd0 : decide ((k : Int) < (n : Int)) = true := decide_eq_true hltz
      obtain ⟨c, rfl, -, hc⟩ := (HS.out.dr HD.out) k (by rw [HL.out]; exact hlt)
      have hcall := HP.out k (by rw [HL.out]; exact hlt) wr HD.out
      generalize l.getD k 0 = u at *
      rw [show f k = false from HT.out k hlt] at hcall
      have HC := Lib.hid hcall
      clear hcall
      go_wp2_with fail
      refine HC.out.mono ?_
      rintro e w' ⟨rfl, hD'⟩
      have HD2 := Lib.hid (HD.out.trans hD')
      clear hD'
      go_wp2
      go_roundw
      case rel => exact ⟨k + 1, by omega, by go_num, HD2.out⟩
      case measure => simp [intOf]; omega
    · have hd0 : decide ((k : Int) < (n : Int)) = false := decide_eq_false (by omega)
      go_wp2
      go_ret
      exact ⟨rfl, HD.out⟩
theorem containsI_hit (t : Nat) (ht : Hit f n t) : Calls Tryz.prog 235 #[.slice p n cap, .func (.func g) #[] lb] w fun e w' => e = .returned (.bool true) ∧ Dr w w' := by
  have HC := Lib.hid (indexI_hit g lb eg l f p n cap w hp hs hl hn t ht)
  clear hp hs hl ht
  go_enter Tryz.func235, Tryz.ntmps235
  go_wp2_with fail
  refine HC.out.mono ?_
  rintro e w' ⟨rfl, hD⟩
  have HD := Lib.hid hD
  clear hD
  have hd : decide ((0 : Int) ≤ (t : Int)) = true := decide_eq_true (by omega)
  go_wp2
  go_ret
  exact ⟨rfl, HD.out⟩
theorem containsI_miss (ht : Miss f n) : Calls Tryz.prog 235 #[.slice p n cap, .func (.func g) #[] lb] w fun e w' => e = .returned (.bool false) ∧ Dr w w' := by
  have HC := Lib.hid (indexI_miss g lb eg l f p n cap w hp hs hl (by omega) ht)
  clear hp hs hl ht
  go_enter Tryz.func235, Tryz.ntmps235
  go_wp2_with fail
  refine HC.out.mono ?_
  rintro e w' ⟨rfl, hD⟩
  have HD := Lib.hid hD
  clear hD
  go_wp2
  go_ret
  exact ⟨rfl, HD.out⟩
end
theorem Bl.dr {w w' : World} {q : Option Addr} {th : List Bool} (h : Bl w q th) (k : Dr w w') : Bl w' q th := h.of_below (k.below _)
theorem enters_D1 : ∀ args w, (callFunc 234 args).run Tryz.prog w = .ok (.enter 234 args) w := enters_of Tryz.func234 (by kernel_rfl) rfl
theorem enters_D2 : ∀ args w, (callFunc 236 args).run Tryz.prog w = .ok (.enter 236 args) w := enters_of Tryz.func236 (by kernel_rfl) rfl
theorem enters_R1 : ∀ args w, (callFunc 278 args).run Tryz.prog w = .ok (.enter 278 args) w := enters_of Tryz.func278 (by kernel_rfl) rfl
theorem enters_R2 : ∀ args w, (callFunc 279 args).run Tryz.prog w = .ok (.enter 279 args) w := enters_of Tryz.func279 (by kernel_rfl) rfl
theorem enters_P1 : ∀ args w, (callFunc 283 args).run Tryz.prog w = .ok (.enter 283 args) w := enters_of Tryz.func283 (by kernel_rfl) rfl
section
variable (E K i k l cap : Nat) (q : Option Addr) (th : List Bool) (w : World) (hx : w.cell? ⟨E, 0, none⟩ = some (.slice q l cap)) (hb : Bl w q th) (hl : th.length = l)
include hx hb hl
theorem d1_any (hi : i < l) : Calls Tryz.prog 234 #[.int .i64 (i : Int), .pointer (some ⟨E, 0, none⟩)] w fun e w' => e = .returned (.bool (th.getD i false)) ∧ w = w' := by
  obtain ⟨c, o, rfl, hc⟩ := hb i (by omega)
  have h1 : (i : Int) < (l : Int) := by omega
  generalize th.getD i false = x at *
  clear hb hl
  go_enter Tryz.func234, Tryz.ntmps234
  go_wp2
  go_ret
  exact ⟨rfl, rfl⟩
theorem r1_any (hi : i < l) : Calls Tryz.prog 278 #[.int .i64 (i : Int), .pointer (some ⟨E, 0, none⟩)] w fun e w' => e = .returned (.bool (!th.getD i false)) ∧ w = w' := by
  obtain ⟨c, o, rfl, hc⟩ := hb i (by omega)
  have h1 : (i : Int) < (l : Int) := by omega
  generalize th.getD i false = x at *
  clear hb hl
  go_enter Tryz.func278, Tryz.ntmps278
  go_wp2
  go_ret
  exact ⟨rfl, rfl⟩
variable (hk : w.cell? ⟨K, 0, none⟩ = some (.int .i64 (k : Int))) (hlb : l < 1000000)
include hk hlb
theorem r2_any (hi : k + i < l) : Calls Tryz.prog 279 #[.int .i64 (i : Int), .pointer (some ⟨E, 0, none⟩), .pointer (some ⟨K, 0, none⟩)] w fun e w' => e = .returned (.bool (th.getD (k + i) false)) ∧ w = w' := by
  obtain ⟨c, o, rfl, hc⟩ := hb (k + i) (by omega)
  have h1 : (k : Int) + (i : Int) < (l : Int) := by omega
  have h2 : (0 : Int) ≤ (k : Int) + (i : Int) := by omega
  have h3 : ((k : Int) + (i : Int)).toNat = k + i := by omega
  have hw : IntKind.i64.wrap ((k : Int) + (i : Int)) = (k : Int) + (i : Int) := IntWalk.i64_in _ (by omega)
  generalize th.getD (k + i) false = x at *
  clear hb hl
  go_enter Tryz.func279, Tryz.ntmps279
  go_wp2
  go_ret
  exact ⟨rfl, rfl⟩
theorem p1_any (hi : k + i < l) : Calls Tryz.prog 283 #[.int .i64 (i : Int), .pointer (some ⟨E, 0, none⟩), .pointer (some ⟨K, 0, none⟩)] w fun e w' => e = .returned (.bool (!th.getD (k + i) false)) ∧ w = w' := by
  obtain ⟨c, o, rfl, hc⟩ := hb (k + i) (by omega)
  have h1 : (k : Int) + (i : Int) < (l : Int) := by omega
  have h2 : (0 : Int) ≤ (k : Int) + (i : Int) := by omega
  have h3 : ((k : Int) + (i : Int)).toNat = k + i := by omega
  have hw : IntKind.i64.wrap ((k : Int) + (i : Int)) = (k : Int) + (i : Int) := IntWalk.i64_in _ (by omega)
  generalize th.getD (k + i) false = x at *
  clear hb hl
  go_enter Tryz.func283, Tryz.ntmps283
  go_wp2
  go_ret
  exact ⟨rfl, rfl⟩
end
set_option maxHeartbeats 1000000 in
theorem d2_any (E1 E2 i l0 n cap ll lc : Nat) (p : Option Addr) (g : Nat) (ls : List (List (BitVec 8))) (w : World) (h1 : w.cell? ⟨E1, 0, none⟩ = some (.slice p n cap)) (hs : Prt w p ls) (hl : ls.length = n) (h2 : w.cell? ⟨E2, 0, none⟩ = some (.slice (some ⟨g, 0, none⟩) ll lc)) (h3 : w.cell? ⟨g, 0, none⟩ = some (.int .i64 (l0 : Int))) (hl0 : l0 < n) (hi : i < n) (hll : 0 < ll) :
    Calls Tryz.prog 236 #[.int .i64 (i : Int), .pointer (some ⟨E1, 0, none⟩), .pointer (some ⟨E2, 0, none⟩)] w fun e w' => e = .returned (.bool (decide ((ls.getD i []).length ≠ (ls.getD l0 []).length))) ∧ Dr w w' := by
  obtain ⟨c, o, q1, cap1, rfl, -, hc1, -, -, -⟩ := hs.at_ i (by omega)
  obtain ⟨c', o', q2, cap2, e2, -, hc2, -, -, -⟩ := hs.at_ l0 (by omega)
  injection e2 with e2
  injection e2 with e21 e22
  subst e21 e22
  have b1 : (i : Int) < (n : Int) := by omega
  have b2 : (l0 : Int) < (n : Int) := by omega
  have b3 : (0 : Int) < (ll : Int) := by omega
  generalize (ls.getD i []).length = m at *
  generalize (ls.getD l0 []).length = m0 at *
  clear hs hl
  by_cases h : m = m0
  · have hb : ((m : Int) != (m0 : Int)) = false := by simp; omega
    have hf : Hid (decide (m ≠ m0) = false) := decide_eq_false fun e => e h
    clear h
    go_enter Tryz.func236, Tryz.ntmps236
    go_wp2
    go_quiet (fail)
    go_wp2
    go_ret
    exact ⟨by rw [hf.out]; rfl, Dr.drewN (Dr.refl _) _⟩
  · have hb : ((m : Int) != (m0 : Int)) = true := by simp; omega
    have hb2 : ((m : Int) == (m0 : Int)) = false := by simp; omega
    have hb3 : decide (m = m0) = false := decide_eq_false h
    have hf : Hid (decide (m ≠ m0) = true) := decide_eq_true h
    clear h
    go_enter Tryz.func236, Tryz.ntmps236
    go_wp2
    go_quiet (fail)
    go_wp2
    go_ret
    exact ⟨by rw [hf.out]; rfl, Dr.drewN (Dr.refl _) _⟩
end Go.Proofs.YtnmopjefjpifoaaGreatDoor
/- Rows of a matrix of the call's own replaced, one header after another, by rows of another such matrix. -/
set_option maxRecDepth 100000
namespace Go.Proofs.YtnmopjefjpifoaaGreatDoor
open Go Go.RowKit
attribute [-go_sem] Sha.exec_store

/-- Row tg s is replaced by row sc s of the other, s below t. -/
def putD (D Dp tg sc : Nat → Nat) : Nat → Nat → Nat
  | 0 => D
  | t + 1 => setD (putD D Dp tg sc t) (tg t) (Dp (sc t))
def putX (X P : Mx) (tg sc : Nat → Nat) : Nat → Mx
  | 0 => X
  | t + 1 => setr (putX X P tg sc t) (tg t) (P (sc t))
theorem putD_or (D Dp tg sc : Nat → Nat) (t j : Nat) : putD D Dp tg sc t j = D j ∨ ∃ s, s < t ∧ putD D Dp tg sc t j = Dp (sc s) := by
  induction t with
  | zero => exact .inl rfl
  | succ t ih =>
    show setD _ _ _ j = _ ∨ ∃ s, s < t + 1 ∧ setD _ _ _ j = _
    unfold setD
    by_cases h : j = tg t
    · rw [if_pos h]; exact .inr ⟨t, by omega, rfl⟩
    · rw [if_neg h]
      rcases ih with h1 | ⟨s, h1, h2⟩
      · exact .inl h1
      · exact .inr ⟨s, by omega, h2⟩
theorem putX_no (X P : Mx) (tg sc : Nat → Nat) (t j x : Nat) (h : ∀ s, s < t → tg s ≠ j) : putX X P tg sc t j x = X j x := by
  induction t with
  | zero => rfl
  | succ t ih =>
    show setr _ _ _ j x = _
    unfold setr
    rw [if_neg (fun e => h t (by omega) e.symm)]
    exact ih fun s hs => h s (by omega)
theorem putX_yes (X P : Mx) (tg sc : Nat → Nat) (t s x : Nat) (hs : s < t) (hi : ∀ a b, a < t → b < t → tg a = tg b → a = b) : putX X P tg sc t (tg s) x = P (sc s) x := by
  induction t with
  | zero => omega
  | succ t ih =>
    show setr _ _ _ (tg s) x = _
    unfold setr
    by_cases h : tg s = tg t
    · rw [if_pos h, hi s t hs (by omega) h]
    · rw [if_neg h]
      exact ih (by rcases Nat.lt_or_ge s t with h1 | h1; exact h1; exact absurd (by rw [show s = t by omega]) h) fun a b ha hb => hi a b (by omega) (by omega)
theorem Mp.of_kp {w w' : World} {N G n k m c : Nat} {D : Nat → Nat} {a : Mx} (h : Mp w N G n k m D a) (g : Kp c w w') (h1 : G ≠ c) (h2 : ∀ i, i < k → D i ≠ c) : Mp w' N G n k m D a :=
  ⟨h.hds.of_kp g h1, fun i hi => (h.row i hi).of_kp g (h2 i hi), h.inj, h.ne, h.lo, h.loG⟩
/-- One more header replaced. -/
theorem Mp.puts {w : World} {N G n L Np Gp m' : Nat} {D Dp tg sc : Nat → Nat} {X P : Mx} {t : Nat} (h : Mp w N G n n L (putD D Dp tg sc t) (putX X P tg sc t)) (hp : Mp w Np Gp m' m' L Dp P) (hD : ∀ j, j < n → D j < Np) (hG : G < Np) (hN : N ≤ Np) (ht : tg t < n) (hs : ∀ s, s ≤ t → sc s < m') (hi : ∀ s, s < t → sc s ≠ sc t) :
    Mp (w.setCell ⟨G, tg t, none⟩ (.slice (some ⟨Dp (sc t), 0, none⟩) L L)) N G n n L (putD D Dp tg sc (t + 1)) (putX X P tg sc (t + 1)) := by
  have hlo := hp.lo (sc t) (hs t (Nat.le_refl _))
  refine h.put (tg t) (Dp (sc t)) (P (sc t)) (hp.row _ (hs t (Nat.le_refl _))) n (.inl ⟨rfl, ht⟩) (fun j hj hne => ?_) (by omega) (by omega)
  rcases putD_or D Dp tg sc t j with h1 | ⟨s, h1, h2⟩
  · rw [h1]; have := hD j hj; omega
  · rw [h2]; exact hp.inj _ _ (hs s (by omega)) (hs t (Nat.le_refl _)) (hi s h1)
theorem Il.of_kp {w w' : World} {q : Option Addr} {l : List Nat} {c : Nat} (h : Il w q l) (g : Kp c w w') (hc : ∀ b, q = some ⟨b, 0, none⟩ → b ≠ c) : Il w' q l := fun j hj => by
  obtain ⟨b, e, hb, hx⟩ := h j hj
  exact ⟨b, e, Nat.lt_of_lt_of_le hb g.size, by rw [g.cell (by exact hb) (by exact hc b e)]; exact hx⟩
theorem OwnIV.il2 {w : World} {base : Nat} {v : Value} {l : List Nat} (h : OwnIV w base v l) : ∃ p cap, v = .slice p l.length cap ∧ Il w p l ∧ l.length ≤ cap ∧ ∀ b, p = some ⟨b, 0, none⟩ → base ≤ b ∧ b < w.heap.size := by
  obtain ⟨p, cap, h1, h2, h3⟩ := h.il
  refine ⟨p, cap, h1, h2, h3, fun b e => h.lt b ?_⟩
  rw [h1, e]; rfl
theorem where_il (g : Nat) (lb : Array Value) (eg : ∀ args w, (callFunc g args).run Tryz.prog w = .ok (.enter g args) w) (n : Nat) (f : Nat → Bool) (w : World) (hp : AskI g lb n f w) (hn : n < 1000) :
    Calls Tryz.prog 233 #[.int .i64 (n : Int), .func (.func g) #[] lb] w fun e w' => ∃ p cap len, e = .returned (.slice p len cap) ∧ (pick f n).length = len ∧ len ≤ cap ∧ Il w' p (pick f n) ∧ (∀ b, p = some ⟨b, 0, none⟩ → w.heap.size ≤ b) ∧ Below w.heap.size w w' := by
  refine (where_any g lb eg n f w hp hn).mono ?_
  rintro e w' ⟨v, rfl, hO, hB⟩
  obtain ⟨p, cap, h1, h2, h3, h4⟩ := hO.il2
  exact ⟨p, cap, _, by rw [h1], rfl, h3, h2, fun b e => (h4 b e).1, hB⟩
end Go.Proofs.YtnmopjefjpifoaaGreatDoor
/- A slice of rows of the call's own, each row in a block of its own. -/
set_option maxRecDepth 100000
namespace Go.Proofs.YtnmopjefjpifoaaGreatDoor
open Go Go.RowKit
attribute [-go_sem] Sha.exec_store

def vd (vs : List Value) (i : Nat) : Value := vs.getD i (.bool false)
/-- v holds the headers of rows that hold ls; all blocks are the call's own, from base on, and differ. -/
def OwnX (w : World) (base : Nat) (v : Value) (ls : List (List (BitVec 8))) : Prop :=
  ∃ vs : List Value, vs.length = ls.length ∧ w.ownsRow base 53 1 v ls.length vs ∧ (∀ i, i < ls.length → OwnB w base (vd vs i) (ls.getD i [])) ∧
    (∀ i g, i < ls.length → (vd vs i).ownBlock = some g → v.ownBlock ≠ some g) ∧ (∀ i j g, i < ls.length → j < ls.length → i ≠ j → (vd vs i).ownBlock = some g → (vd vs j).ownBlock ≠ some g)
theorem vd_get {vs : List Value} {i : Nat} (h : i < vs.length) : vs[i]? = some (vd vs i) := by simp [vd, List.getD_eq_getElem?_getD, h]
section
variable {w w' : World} {base : Nat} {v : Value} {ls : List (List (BitVec 8))}
theorem owns_keep {T : TypeId} {n : Nat} {vs : List Value} (h : w.ownsRow base T 1 v n vs) (hb : ∀ k, v.ownBlock = some k → w'.heap[k]? = w.heap[k]?) : w'.ownsRow base T 1 v n vs := by
  refine ⟨h.1, ?_⟩
  rcases h.2 with h' | ⟨g, cap, cur, hv, h1, hg, r⟩
  · exact .inl h'
  · exact .inr ⟨g, cap, cur, hv, h1, by rw [hb g (by rw [hv]; rfl)]; exact hg, r⟩
theorem OwnX.nil (w : World) (base : Nat) : OwnX w base (.slice none 0 0) [] := ⟨[], rfl, ⟨rfl, .inl ⟨rfl, rfl⟩⟩, fun i hi => absurd hi (by simp), fun i g hi => absurd hi (by simp), fun i j g hi => absurd hi (by simp)⟩
theorem OwnX.lt (h : OwnX w base v ls) : ∀ k, v.ownBlock = some k → base ≤ k ∧ k < w.heap.size := by
  obtain ⟨vs, _, h2, _⟩ := h
  exact World.ownsRow.lt h2
theorem OwnX.of_below (h : OwnX w base v ls) (k : Below w.heap.size w w') : OwnX w' base v ls := by
  obtain ⟨vs, h1, h2, h3, h4, h5⟩ := h
  exact ⟨vs, h1, owns_keep h2 fun g hg => k.block g (World.ownsRow.lt h2 g hg).2, fun i hi => (h3 i hi).of_below k, h4, h5⟩
theorem OwnX.dr (h : OwnX w base v ls) (k : Dr w w') : OwnX w' base v ls := h.of_below (k.below _)
theorem OwnX.mono {base' : Nat} (h : OwnX w base v ls) (hb : base' ≤ base) : OwnX w base' v ls := by
  obtain ⟨vs, h1, h2, h3, h4, h5⟩ := h
  have low : ∀ {T : TypeId} {u : Value} {n : Nat} {us : List Value}, w.ownsRow base T 1 u n us → w.ownsRow base' T 1 u n us := fun h => ⟨h.1, by
    rcases h.2 with h' | ⟨g, cap, cur, hv, h1, r⟩
    · exact .inl h'
    · exact .inr ⟨g, cap, cur, hv, Nat.le_trans hb h1, r⟩⟩
  exact ⟨vs, h1, low h2, fun i hi => low (h3 i hi), h4, h5⟩
/-- What such a slice reads as. -/
theorem OwnX.prt (h : OwnX w base v ls) : ∃ p cap, v = .slice p ls.length cap ∧ Prt w p ls ∧ (p = none → cap = 0) ∧ ls.length ≤ cap := by
  obtain ⟨vs, h1, h2, h3, _⟩ := h
  rcases h2.2 with ⟨hv, hl⟩ | ⟨g, cap, cur, hv, hb, hg, hle, _, hsz, ht⟩
  · exact ⟨none, 0, by rw [hv, hl], fun i hi => absurd hi (by omega), fun _ => rfl, by omega⟩
  · refine ⟨some ⟨g, 0, none⟩, cap, hv, fun i hi => ?_, (fun h => by cases h), hle⟩
    obtain ⟨q, c, e, hs, hq, hlc⟩ := (h3 i hi).shape
    refine ⟨g, 0, q, c, rfl, ?_, hs, hq, hlc⟩
    rw [Nat.zero_add, cell_of_row w g i cur 53 (0, 0) hg, ← e, ← vd_get (by omega)]
    have e2 : (cur.toList.take (ls.length * 1))[i]? = vs[i]? := by rw [ht]
    rw [List.getElem?_take, if_pos (by omega)] at e2
    simpa using e2
/-- One byte of one row set. -/
theorem OwnX.put (h : OwnX w base v ls) (i x : Nat) (hi : i < ls.length) (hx : x < (ls.getD i []).length) (y : BitVec 8) :
    ∃ g, (∃ n cap, v = .slice (some ⟨g, 0, none⟩) n cap) ∧ ∃ d c, w.cell? ⟨g, i, none⟩ = some (.slice (some ⟨d, 0, none⟩) (ls.getD i []).length c) ∧ w.cell? ⟨d, x, none⟩ = some (B ((ls.getD i []).getD x 0#8)) ∧ w.frozen? ⟨d, x, none⟩ = false ∧ base ≤ d ∧
      OwnX (w.setCell ⟨d, x, none⟩ (B y)) base v (ls.set i ((ls.getD i []).set x y)) := by
  obtain ⟨vs, h1, h2, h3, h4, h5⟩ := h
  rcases h2.2 with ⟨hv, hl⟩ | ⟨g, cap, cur, hv, hb, hg, hle, hq1, hsz, ht⟩
  · omega
  have hrow := h3 i hi
  rcases hrow.2 with ⟨hv2, hl2⟩ | ⟨d, c, cur2, hv2, hb2, hg2, hle2, hq2, hsz2, ht2⟩
  · omega
  have hob : (vd vs i).ownBlock = some d := by rw [hv2]; rfl
  have hdv : v.ownBlock ≠ some d := h4 i d hi hob
  have hcell : w.cell? ⟨d, x, none⟩ = some (B ((ls.getD i []).getD x 0#8)) := by
    rw [cell_of_row w d x cur2 5 (0, 0) hg2]
    have e : (cur2.toList.take ((ls.getD i []).length * 1))[x]? = ((ls.getD i []).map B)[x]? := by rw [ht2]
    have e4 : (ls.getD i [])[x]? = some ((ls.getD i []).getD x 0#8) := by
      generalize ls.getD i [] = r at *
      simp [List.getD_eq_getElem?_getD, hx]
    rw [List.getElem?_take, if_pos (by omega), List.getElem?_map, e4] at e
    simpa using e
  have hhead : w.cell? ⟨g, i, none⟩ = some (.slice (some ⟨d, 0, none⟩) (ls.getD i []).length c) := by
    rw [cell_of_row w g i cur 53 (0, 0) hg, ← hv2, ← vd_get (by omega)]
    have e : (cur.toList.take (ls.length * 1))[i]? = vs[i]? := by rw [ht]
    rw [List.getElem?_take, if_pos (by omega)] at e
    simpa using e
  refine ⟨g, ⟨_, _, hv⟩, d, c, hhead, hcell, by simp only [World.frozen?, hg2]; simp, hb2, vs, by rw [h1, List.length_set], ?_, fun j hj => ?_, fun j g' hj => ?_, fun j l g' hj hl => ?_⟩
  · rw [List.length_set]
    exact owns_keep h2 fun k' hk => Below.heap_setCell _ _ _ _ (show k' ≠ d from fun e => hdv (by rw [← e]; exact hk))
  · rw [List.length_set] at hj
    by_cases e : j = i
    · subst e
      have e2 : (ls.set j ((ls.getD j []).set x y)).getD j [] = (ls.getD j []).set x y := by simp [List.getD_eq_getElem?_getD, hj]
      rw [e2]
      have hst := (World.ownsRow.stored (by rw [hv2] at hrow; exact hrow : w.ownsRow base 5 1 (.slice (some ⟨d, 0, none⟩) (ls.getD j []).length c) (ls.getD j []).length ((ls.getD j []).map B)) x (B y)).1
      rw [hv2]
      unfold OwnB
      rw [List.length_set, List.map_set]
      exact hst
    · have e2 : (ls.set i ((ls.getD i []).set x y)).getD j [] = ls.getD j [] := by
        simp [List.getD_eq_getElem?_getD, List.getElem?_set, Ne.symm e]
      rw [e2]
      exact (h3 j hj).keep fun k' hk => Below.heap_setCell _ _ _ _ (show k' ≠ d from fun e3 => by subst e3; exact h5 i j k' hi hj (Ne.symm e) hob hk)
  · rw [List.length_set] at hj; exact h4 j g' hj
  · rw [List.length_set] at hj hl; exact h5 j l g' hj hl
end
end Go.Proofs.YtnmopjefjpifoaaGreatDoor
/- Rows copied, in layer 4's statements: each copy in a block of its own. -/
set_option maxRecDepth 100000
namespace Go.Proofs.YtnmopjefjpifoaaGreatDoor
open Go Go.RowKit
attribute [-go_sem] Sha.exec_store

theorem OwnB.low {w : World} {b b' : Nat} {v : Value} {l : List (BitVec 8)} (h : OwnB w b v l) (hb : b' ≤ b) : OwnB w b' v l := ⟨h.1, by
  rcases h.2 with h' | ⟨g, cap, cur, hv, h1, r⟩
  · exact .inl h'
  · exact .inr ⟨g, cap, cur, hv, Nat.le_trans hb h1, r⟩⟩
attribute [local go_sem ↓] exec_bs
attribute [local go_sem] bs0 bsR
end Go.Proofs.YtnmopjefjpifoaaGreatDoor
/- Shards and their parity, as lists; slices of rows opened and cut. -/
set_option maxRecDepth 100000
namespace Go.Proofs.YtnmopjefjpifoaaGreatDoor
open Go Go.RowKit
attribute [-go_sem] Sha.exec_store

end Go.Proofs.YtnmopjefjpifoaaGreatDoor
/- What is told from k of all shards; nothing of the program. -/
set_option maxRecDepth 100000
namespace Go.Proofs.YtnmopjefjpifoaaGreatDoor

end Go.Proofs.YtnmopjefjpifoaaGreatDoor
/- What the missing data shards are, told from some rows of the parity; nothing of the program. -/
set_option maxRecDepth 100000
namespace Go.Proofs.YtnmopjefjpifoaaGreatDoor
open Go Go.RowKit
attribute [-go_sem] Sha.exec_store

theorem pick_split (f : Nat → Bool) (k m : Nat) : pick f (k + m) = pick f k ++ (pick (fun i => f (k + i)) m).map (k + ·) := by
  induction m with
  | zero => simp [pick]
  | succ m ih =>
    rw [← Nat.add_assoc]
    cases h : f (k + m) with
    | true => rw [pick_yes h, pick_yes (f := fun i => f (k + i)) h, ih, List.map_append, ← List.append_assoc]; rfl
    | false => rw [pick_no h, pick_no (f := fun i => f (k + i)) h, ih]
theorem pick_both (f : Nat → Bool) (n : Nat) : (pick f n).length + (pick (fun i => !f i) n).length = n := by
  induction n with
  | zero => rfl
  | succ n ih =>
    cases h : f n with
    | true => rw [pick_yes h, pick_no (f := fun i => !f i) (by show (!f n) = false; rw [h]; rfl), List.length_append]; simp; omega
    | false => rw [pick_no h, pick_yes (f := fun i => !f i) (by show (!f n) = true; rw [h]; rfl), List.length_append]; simp; omega
theorem take_at (l : List Nat) (M i : Nat) (h : i < M) : (l.take M).getD i 0 = l.getD i 0 := by simp [List.getD_eq_getElem?_getD, h]
theorem picks_take (f : Nat → Bool) (n M : Nat) : Picks n ((pick f n).take M) := fun i hi => by
  have hi' : i < M ∧ i < (pick f n).length := by simp [List.length_take] at hi; omega
  rw [take_at _ _ _ hi'.1]
  refine ⟨(pick_at i hi'.2).1, fun j hj e => ?_⟩
  rw [take_at _ _ _ (by omega)] at e
  have := pick_inj f n i j hi'.2 (by omega) e
  omega
theorem picks_pick (f : Nat → Bool) (n : Nat) : Picks n (pick f n) := fun i hi => by
  refine ⟨(pick_at i hi).1, fun j hj e => ?_⟩
  have := pick_inj f n i j hi (by omega) e
  omega
/-- The rows told: with them the parity is what was there. -/
theorem rec_sum (k m M L : Nat) (f : Nat → Bool) (X V : Mx) (ul ml : List Nat) (hml : ml = pick (fun i => !f i) k) (hM : ml.length = M) (hz : ∀ i x, i < k → f i = false → x < L → X i x = 0#8)
    (hV : IsInv M (mx (rowsL M M (cutM k ul ml))) V) (d Y : Mx) (hd : ∀ s x, s < M → x < L → d s x = mm k (cau k) X (ul.getD s 0) x ^^^ X (k + ul.getD s 0) x)
    (hY1 : ∀ i x, i < k → f i = true → Y i x = X i x) (hY2 : ∀ t x, t < M → x < L → Y (ml.getD t 0) x = mm M V d t x) (s x : Nat) (hs : s < M) (hx : x < L) :
    mm k (cau k) Y (ul.getD s 0) x = X (k + ul.getD s 0) x := by
  have e1 : mm k (cau k) Y (ul.getD s 0) x = mm k (cau k) X (ul.getD s 0) x ^^^ xs k (fun j => gm (cau k (ul.getD s 0) j) (if f j = true then 0#8 else Y j x)) := by
    unfold mm
    rw [← xs_add]
    refine xs_congr fun j hj => ?_
    cases hf : f j with
    | true => rw [hY1 j x hj hf, if_pos rfl, gm_zr, BitVec.xor_zero]
    | false => rw [hz j x hj hf hx, gm_zr, BitVec.zero_xor]; rfl
  have e2 : xs k (fun j => gm (cau k (ul.getD s 0) j) (if f j = true then 0#8 else Y j x)) = mm M (mx (rowsL M M (cutM k ul ml))) (mm M V d) s x := by
    rw [xs_filter k (fun i => !f i) _ fun i hi h => by
      have : f i = true := by simpa using h
      show gm _ (if f i = true then 0#8 else Y i x) = 0#8
      rw [if_pos this, gm_zr]]
    have : (List.range k).filter (fun i => !f i) = ml := hml.symm
    rw [this, hM]
    show _ = xs M (fun t => gm (mx (rowsL M M (cutM k ul ml)) s t) (mm M V d t x))
    refine xs_congr fun t ht => ?_
    have ht' : f (ml.getD t 0) = false := by
      have := (pick_at (f := fun i => !f i) (n := k) t (by rw [← hml, hM]; exact ht)).2
      rw [← hml] at this
      simpa using this
    rw [ht', rowsL_mx M M _ s t hs ht, ← hY2 t x ht hx]
    rfl
  have e3 : mm M (mx (rowsL M M (cutM k ul ml))) (mm M V d) s x = d s x := by
    rw [← mm_assoc, mm_congr (a' := id1) (b' := d) (fun j hj => hV.2 s j hs hj) (fun j _ => rfl), mm_id_l M d s x hs]
  rw [e1, e2, e3, hd s x hs hx, ← BitVec.xor_assoc, xor_self', BitVec.zero_xor]
/-- The first k that are there make all. -/
theorem rec_all (k m M L : Nat) (f : Nat → Bool) (X Y : Mx) (ul : List Nat) (hM : (pick (fun i => !f i) k).length = M) (hul : ul = (pick (fun i => f (k + i)) m).take M) (hen : M ≤ (pick (fun i => f (k + i)) m).length)
    (hY1 : ∀ i x, i < k → f i = true → Y i x = X i x) (hY2 : ∀ s x, s < M → x < L → mm k (cau k) Y (ul.getD s 0) x = X (k + ul.getD s 0) x) :
    ∃ rl : List Nat, Picks (k + m) rl ∧ rl.length = k ∧ ∀ t, t < k → f (rl.getD t 0) = true ∧ ∀ x, x < L → mm k (ext k) Y (rl.getD t 0) x = X (rl.getD t 0) x := by
  have hb := pick_both f k
  have hlen : (pick f (k + m)).length = (pick f k).length + (pick (fun i => f (k + i)) m).length := by rw [pick_split, List.length_append, List.length_map]
  refine ⟨(pick f (k + m)).take k, picks_take f (k + m) k, by rw [List.length_take]; omega, fun t ht => ?_⟩
  rw [take_at _ _ _ ht]
  have hat := pick_at (f := f) (n := k + m) t (by omega)
  refine ⟨hat.2, fun x hx => ?_⟩
  by_cases h : t < (pick f k).length
  · have e : (pick f (k + m)).getD t 0 = (pick f k).getD t 0 := by rw [pick_split]; simp [List.getD_eq_getElem?_getD, List.getElem?_append_left h]
    have h2 := pick_at (f := f) (n := k) t h
    rw [e]
    rw [← hY1 _ x h2.1 h2.2]
    have e2 : mm k (ext k) Y ((pick f k).getD t 0) x = mm k id1 Y ((pick f k).getD t 0) x := mm_congr (fun j _ => by unfold ext; rw [if_pos h2.1]) (fun _ _ => rfl)
    rw [e2, mm_id_l k _ _ x h2.1]
  · have hs : t - (pick f k).length < M := by omega
    have e : (pick f (k + m)).getD t 0 = k + ul.getD (t - (pick f k).length) 0 := by
      rw [hul, take_at _ _ _ hs, pick_split]
      have h3 : t - (pick f k).length < (pick (fun i => f (k + i)) m).length := by omega
      generalize pick (fun i => f (k + i)) m = l at *
      simp [List.getD_eq_getElem?_getD, List.getElem?_append_right (show (pick f k).length ≤ t by omega), h3]
    rw [e]
    have e2 : mm k (ext k) Y (k + ul.getD (t - (pick f k).length) 0) x = mm k (cau k) Y (ul.getD (t - (pick f k).length) 0) x := by
      unfold mm
      refine xs_congr fun j _ => ?_
      unfold ext
      rw [if_neg (by omega), Nat.add_sub_cancel_left]
    rw [e2, hY2 _ x hs hx]
end Go.Proofs.YtnmopjefjpifoaaGreatDoor
/- bytes.Equal. -/
set_option maxRecDepth 100000
namespace Go.Proofs.YtnmopjefjpifoaaGreatDoor
open Go Go.RowKit
attribute [-go_sem] Sha.exec_store

end Go.Proofs.YtnmopjefjpifoaaGreatDoor
/- The program's Check. -/
set_option maxRecDepth 100000
namespace Go.Proofs.YtnmopjefjpifoaaGreatDoor
open Go Go.RowKit
attribute [-go_sem] Sha.exec_store

theorem sizeR5 (w : World) : (sizeOf (Tryz.prog.elem 73)).run Tryz.prog w = .ok 1 w := by kernel_rfl
theorem slr_hi (q : Option Addr) (n cap k : Nat) (w : World) (hk : k ≤ cap) :
    (slT 73 (.slice q n cap) none (some (.int .i64 (k : Int))) none).run Tryz.prog w = .ok (.value (.slice q k cap)) w := by
  have h1 := run_sliceAt_slice (P := Tryz.prog) w 73 (.slice q n cap) none (some (.int .i64 (k : Int))) none undRows
  rw [run_slice_h (P := Tryz.prog) w 73 q n cap undRows .i64 (k : Int) (by omega) (by omega), sizeR5] at h1
  simp only [slT, Sem.run_bind, h1, Result.andThen_ok, Sem.run_pure]
  simp only [sliced, Int.toNat_natCast, Nat.zero_mul, Nat.sub_zero]
  have := cutA_zero q cap
  unfold cutA at this
  rw [this]
theorem slr_lo (c o n cap k : Nat) (w : World) (hk : k < n) (hc : n ≤ cap) :
    (slT 73 (.slice (some ⟨c, o, none⟩) n cap) (some (.int .i64 (k : Int))) none none).run Tryz.prog w = .ok (.value (.slice (some ⟨c, o + k, none⟩) (n - k) (cap - k))) w := by
  have h1 := run_sliceAt_slice (P := Tryz.prog) w 73 (.slice (some ⟨c, o, none⟩) n cap) (some (.int .i64 (k : Int))) none none undRows
  rw [run_slice_l (P := Tryz.prog) w 73 (some ⟨c, o, none⟩) n cap undRows .i64 (k : Int) (by omega) (by omega), sizeR5] at h1
  simp only [slT, Sem.run_bind, h1, Result.andThen_ok, Sem.run_pure]
  simp only [sliced, Int.toNat_natCast, Nat.mul_one]
  rw [if_neg (by omega)]
  simp [Addr.add]
theorem Prt.take {w : World} {p : Option Addr} {ls : List (List (BitVec 8))} (h : Prt w p ls) (k : Nat) : Prt w p (ls.take k) := fun i hi => by
  have hi' : i < k ∧ i < ls.length := by simp [List.length_take] at hi; omega
  have e : (ls.take k).getD i [] = ls.getD i [] := by simp [List.getD_eq_getElem?_getD, hi'.1]
  rw [e]
  exact h i hi'.2
theorem Prt.drop {w : World} {c o : Nat} {ls : List (List (BitVec 8))} (h : Prt w (some ⟨c, o, none⟩) ls) (k : Nat) : Prt w (some ⟨c, o + k, none⟩) (ls.drop k) := fun i hi => by
  rw [List.length_drop] at hi
  obtain ⟨c', o', q, cap, e, h1, h2, h3, h4⟩ := h (k + i) (by omega)
  injection e with e
  injection e with e1 e2
  subst e1 e2
  have hg : (ls.drop k).getD i [] = ls.getD (k + i) [] := by simp [List.getD_eq_getElem?_getD, List.getElem?_drop]
  rw [hg]
  exact ⟨c, o + k, q, cap, rfl, by rw [Nat.add_assoc]; exact h1, h2, h3, h4⟩
attribute [local go_sem ↓] exec_slice
attribute [local go_sem] slr_hi slr_lo
section
variable (b k m : Nat) (ls : List (List (BitVec 8))) (p : Option Addr) (n cap : Nat) (w : World)
end
end Go.Proofs.YtnmopjefjpifoaaGreatDoor
/- The program's recoverParity. -/
set_option maxRecDepth 100000
namespace Go.Proofs.YtnmopjefjpifoaaGreatDoor
open Go Go.RowKit
attribute [-go_sem] Sha.exec_store

theorem take_mx (n L k : Nat) (X : Mx) (i x : Nat) (hi : i < k) (hk : k ≤ n) (hx : x < L) : mx ((rowsL n L X).take k) i x = X i x := by
  have e : ((rowsL n L X).take k).getD i [] = (rowsL n L X).getD i [] := by simp [List.getD_eq_getElem?_getD, hi]
  unfold mx
  rw [e]
  exact rowsL_mx n L X i x (by omega) hx
/-- The parity of the first rows of a matrix of the call's own. -/
theorem encode_own (b k m n L G N : Nat) (D : Nat → Nat) (X : Mx) (w : World) (hC : Cd w b k m) (hM : Mp w N G n n L D X) (hkn : k ≤ n) (hL : L < 100000) :
    Calls Tryz.prog 198 #[.pointer (some ⟨b, 0, none⟩), .slice (some ⟨G, 0, none⟩) k n] w (RetOk w.heap.size w m L (mm k (cau k) X)) := by
  refine (encode_ok b k m ((rowsL n L X).take k) _ n w L hC (hM.prt.take k) (by rw [List.length_take, rowsL_length]; omega) (fun i hi => ?_) hL).mono ?_
  · have e : ((rowsL n L X).take k).getD i [] = (rowsL n L X).getD i [] := by simp [List.getD_eq_getElem?_getD, hi]
    rw [e]; exact rowsL_len _ _ _ _ (by omega)
  · rintro e w' ⟨G', D', rfl, hM', hB'⟩
    exact ⟨G', D', rfl, hM'.congr fun i j hi hj => mm_congr (fun _ _ => rfl) fun l hl => take_mx n L k X l j hl hkn hj, hB'⟩
attribute [local go_sem ↓] exec_store exec_make exec_slice
attribute [local go_sem] st_H st_I slr_hi
set_option maxRecDepth 100000 in
set_option maxHeartbeats 16000000 in
theorem recP_any (b k m n L G cap' : Nat) (D : Nat → Nat) (X : Mx) (th : List Bool) (q : Option Addr) (w0 w : World) (hC : Cd w0 b k m) (hB : Below w0.heap.size w0 w) (hM : Mp w w0.heap.size G n n L D X) (hn : n = k + m) (hb : Bl w0 q th) (hth : th.length = n) (hL : L < 100000) :
    Calls Tryz.prog 239 #[.pointer (some ⟨b, 0, none⟩), .slice (some ⟨G, 0, none⟩) n n, .slice q n cap'] w fun e w' => e = .returned (.tuple #[]) ∧
      ∃ D', Mp w' w0.heap.size G n n L D' (fun i x => if k ≤ i ∧ th.getD i false = false then mm k (cau k) X (i - k) x else X i x) ∧ Below w0.heap.size w0 w' := by
  have hk1 := hC.k1
  have hm1 := hC.m1
  have hkm := hC.hi
  have hkn : k ≤ n := by omega
  have HC := Lib.hid hC
  have HBL := Lib.hid hb
  have HTH := Lib.hid hth
  have HN := Lib.hid hn
  have hNw : w0.heap.size ≤ w.heap.size := hB.size
  have hGw : G < w.heap.size := hM.ltG
  have hb1 : Below w.heap.size w (w.alloc (.cells #[.slice q n cap'] 85)) := (Below.refl _ _).alloc (Nat.le_refl _) _
  have HB1 := Lib.hid (bel_step hB hb1)
  have HM1 := Lib.hid (hM.of_below hb1)
  have HE1 := Lib.hid (show (w.alloc (.cells #[.slice q n cap'] 85)).cell? ⟨w.heap.size, 0, none⟩ = some (.slice q n cap') by rw [World.cell?_alloc_new]; rfl)
  have hs1 : (w.alloc (.cells #[.slice q n cap'] 85)).heap.size = w.heap.size + 1 := World.size_alloc ..
  clear hC hB hM hb hth hb1 hn
  go_enter Tryz.func239, Tryz.ntmps239
  go_wp2_with fail
  generalize w.alloc (.cells #[.slice q n cap'] 85) = w1 at *
  generalize w.heap.size = E at *
  refine (data_any b k m w1 (HC.out.keep HB1.out)).mono ?_
  rintro e w2 ⟨rfl, rfl⟩
  go_wp2_with fail
  have hb2 : Below w1.heap.size w1 (w1.alloc (.cells #[.int .i64 (k : Int)] 3)) := (Below.refl _ _).alloc (Nat.le_refl _) _
  have HB2 := Lib.hid (bel_step HB1.out hb2)
  have HM2 := Lib.hid (HM1.out.of_below hb2)
  have HE2 := Lib.hid (show (w1.alloc (.cells #[.int .i64 (k : Int)] 3)).cell? ⟨E, 0, none⟩ = some (.slice q n cap') by rw [hb2.cell (by show E < _; omega)]; exact HE1.out)
  have HK2 := Lib.hid (show (w1.alloc (.cells #[.int .i64 (k : Int)] 3)).cell? ⟨E + 1, 0, none⟩ = some (.int .i64 (k : Int)) by rw [← hs1, World.cell?_alloc_new]; rfl)
  have hs2 : (w1.alloc (.cells #[.int .i64 (k : Int)] 3)).heap.size = E + 2 := by rw [World.size_alloc, hs1]
  clear hb2 HM1 HE1
  generalize w1.alloc (.cells #[.int .i64 (k : Int)] 3) = w2 at *
  clear hs1 HB1
  refine (encode_own b k m n L G _ D X w2 (HC.out.keep HB2.out) HM2.out hkn hL).mono ?_
  rintro e w3 ⟨Gp, Dp, rfl, hMp, hb3⟩
  rw [hs2] at hMp
  have hs3 : E + 2 ≤ w3.heap.size := by have := hb3.size; omega
  have HMP3 := Lib.hid hMp
  have HB3 := Lib.hid (bel_step HB2.out hb3)
  have HM3 := Lib.hid (HM2.out.of_below hb3)
  have HE3 := Lib.hid (show w3.cell? ⟨E, 0, none⟩ = some (.slice q n cap') by rw [hb3.cell (by show E < _; omega)]; exact HE2.out)
  have HK3 := Lib.hid (show w3.cell? ⟨E + 1, 0, none⟩ = some (.int .i64 (k : Int)) by rw [hb3.cell (by show E + 1 < _; omega)]; exact HK2.out)
  have HDL := Lib.hid (show ∀ j, j < n → D j < E + 2 from fun j hj => by have := HM2.out.lt j hj; omega)
  clear hMp hb3 HB2 HM2 HE2 HK2
  go_wp2_with fail
  refine (parity_any b k m w3 (HC.out.keep HB3.out)).mono ?_
  rintro e w4 ⟨rfl, rfl⟩
  go_wp2_with fail
  have hask : AskI 283 #[.pointer (some ⟨E, 0, none⟩), .pointer (some ⟨E + 1, 0, none⟩)] m (fun i => !th.getD (k + i) false) w3 := fun i hi w' hB' =>
    p1_any E (E + 1) i k n cap' q th w' (by rw [hB'.cell (by show E < _; omega)]; exact HE3.out) ((HBL.out.of_below HB3.out).of_below hB') HTH.out (by rw [hB'.cell (by show E + 1 < _; omega)]; exact HK3.out) (by have := HN.out; omega) (by have := HN.out; omega)
  refine (where_il _ _ enters_P1 m _ w3 hask (by omega)).mono ?_
  rintro e w4 ⟨pq, pc, len, rfl, hlen, hlc, hIl, hpb, hB4⟩
  have HMP4 := Lib.hid (HMP3.out.of_below hB4)
  have HB4 := Lib.hid (bel_step HB3.out hB4)
  have HM4 := Lib.hid (HM3.out.of_below hB4)
  have HK4 := Lib.hid (show w4.cell? ⟨E + 1, 0, none⟩ = some (.int .i64 (k : Int)) by rw [hB4.cell (by show E + 1 < _; omega)]; exact HK3.out)
  have HIL := Lib.hid hIl
  have HPB := Lib.hid (show ∀ b, pq = some ⟨b, 0, none⟩ → b ≠ G from fun b e => by have := hpb b e; omega)
  have hsz4 : E + 2 ≤ w4.heap.size := Nat.le_trans hs3 hB4.size
  obtain ⟨pl, hpl⟩ : ∃ pl, pl = pick (fun i => !th.getD (k + i) false) m := ⟨_, rfl⟩
  have hfl : len ≤ m := by rw [← hlen]; exact pick_len _ _
  have hpt : ∀ s, s < len → pl.getD s 0 < m := fun s hs => by rw [hpl]; exact (pick_at s (by rw [hlen]; exact hs)).1
  have hpi : ∀ s t, s < len → t < len → pl.getD s 0 = pl.getD t 0 → s = t := fun s t hs ht h => by rw [hpl] at h; exact pick_inj _ _ s t (by rw [hlen]; exact hs) (by rw [hlen]; exact ht) h
  rw [← hpl] at hlen HIL
  have HPL := Lib.hid hpl
  have HLEN := Lib.hid hlen
  have HPT := Lib.hid hpt
  have HPI := Lib.hid hpi
  clear hIl hpb hB4 hpl hlen hpt hpi hask HMP3 HM3 HE3 HK3 HB3
  go_wp2
  go_loopw [10, 26] (fun _ i wr => ∃ t : Nat, t ≤ len ∧ i = .int .i64 t ∧ Kp G w4 wr ∧ Mp wr w0.heap.size G n n L (putD D Dp (fun s => k + pl.getD s 0) (fun s => pl.getD s 0) t) (putX X (mm k (cau k) X) (fun s => k + pl.getD s 0) (fun s => pl.getD s 0) t)) (fun _ i _ => len - (intOf i).toNat)
  case atStart => exact ⟨0, Nat.zero_le _, rfl, Kp.refl _ _, HM4.out⟩
  case round =>
    obtain ⟨t, ht, rfl, hK, hM⟩ := hrel
    rename World => WO
    have HKP := Lib.hid hK
    have HMO := Lib.hid hM
    by_cases hlt : t < len
    · have hd0 : decide ((t : Int) < (len : Int)) = true := decide_eq_true (by omega)
      have hl0 : (t : Int) < (len : Int) := by omega
      obtain ⟨gp, rfl, -, hx1⟩ := (HIL.out.of_kp hK HPB.out) t (by rw [HLEN.out]; exact hlt)
      have hum := HPT.out t hlt
      have hMPO := HMP4.out.of_kp hK (by have := HMP4.out.loG; omega) (fun i hi => by have := HMP4.out.lo i hi; omega)
      have HMPO := Lib.hid hMPO
      have hx2 := hMPO.cellH (pl.getD t 0) hum hum
      have hx3 : WO.cell? ⟨E + 1, 0, none⟩ = some (.int .i64 (k : Int)) := by rw [hK.cell (by show E + 1 < _; omega) (by show E + 1 ≠ G; omega)]; exact HK4.out
      have hcell : WO.cell? ⟨G, k + pl.getD t 0, none⟩ = some (hdr n L (putD D Dp (fun s => k + pl.getD s 0) (fun s => pl.getD s 0) t) (k + pl.getD t 0)) := hM.hds.cell _ (by have := HN.out; omega)
      have hfr : WO.frozen? ⟨G, k + pl.getD t 0, none⟩ = false := hM.free _
      have hlu : (pl.getD t 0 : Nat) < m := hum
      generalize hu : pl.getD t 0 = u at *
      have HU := Lib.hid hu
      have hw : IntKind.i64.wrap ((k : Int) + (u : Int)) = (k : Int) + (u : Int) := IntWalk.i64_in _ (by omega)
      have hui : (u : Int) < (m : Int) := by omega
      have hu0 : (0 : Int) ≤ (k : Int) + (u : Int) := by omega
      have hu1 : (k : Int) + (u : Int) < (n : Int) := by have := HN.out; omega
      have hu2 : ((k : Int) + (u : Int)).toNat = k + u := by omega
      clear hK hM hMPO hu
      go_wp2
      refine wp_region_still_tail 9 (by kernel_rfl) (by kernel_rfl) ?_
      simp only [List.take_succ_cons, List.take_zero, List.drop_succ_cons, List.drop_zero, World.drew_eq]
      repeat (refine wpStill_step (fun K hK => ?_); go_simp; refine hK _ ?_; clear hK K)
      refine wpStill_nil ?_
      go_wp2
      go_roundw
      case rel =>
        have hm := HMO.out.puts HMPO.out HDL.out (by omega) (by omega) (by show k + pl.getD t 0 < n; rw [HU.out]; have := HN.out; omega) (fun s hs => HPT.out s (by omega)) (fun s hs e => by have := HPI.out s t (by omega) hlt e; omega)
        refine ⟨t + 1, by omega, by go_num, (HKP.out.drewN 1).setCell _ _, ?_⟩
        have hm2 := hm.dr (Dr.refl _).drew
        simp only [HU.out] at hm2
        exact hm2
      case measure => simp [intOf]; omega
    · have hd0 : decide ((t : Int) < (len : Int)) = false := decide_eq_false (by omega)
      obtain rfl : t = len := by omega
      clear hK hM
      go_wp2
      go_end0
      refine ⟨rfl, _, HMO.out.congr fun i x hi hx => ?_, HB4.out.trans (HKP.out.below HM4.out.loG (by omega))⟩
      have hn := HN.out
      by_cases h : k ≤ i ∧ th.getD i false = false
      · rw [if_pos h]
        obtain ⟨s, hs, he⟩ := pick_find (f := fun i => !th.getD (k + i) false) (n := m) (i := i - k) (by omega) (by show (!th.getD (k + (i - k)) false) = true; rw [show k + (i - k) = i by omega, h.2]; rfl)
        rw [← HPL.out] at hs he
        have := putX_yes X (mm k (cau k) X) (fun s => k + pl.getD s 0) (fun s => pl.getD s 0) t s x (by rw [← HLEN.out]; exact hs) (fun a b ha hb e => HPI.out a b ha hb (by have : k + pl.getD a 0 = k + pl.getD b 0 := e; omega))
        simp only [he] at this
        rw [show k + (i - k) = i by omega] at this
        exact this
      · rw [if_neg h]
        refine putX_no X _ _ _ t i x fun s hs e => h ?_
        have e' : k + pl.getD s 0 = i := e
        have hp : (!th.getD (k + pl.getD s 0) false) = true := by
          have := (pick_at (f := fun i => !th.getD (k + i) false) (n := m) s (by rw [← HPL.out, HLEN.out]; exact hs)).2
          rw [← HPL.out] at this
          exact this
        rw [e'] at hp
        exact ⟨by omega, by simpa using hp⟩
end Go.Proofs.YtnmopjefjpifoaaGreatDoor
/- The program's submatrix. -/
set_option maxRecDepth 100000
namespace Go.Proofs.YtnmopjefjpifoaaGreatDoor
open Go Go.RowKit
attribute [-go_sem] Sha.exec_store

attribute [local go_sem ↓] exec_store exec_make exec_bs
attribute [local go_sem] st_H mkR mkM bs1B
set_option maxRecDepth 100000 in
set_option maxHeartbeats 16000000 in
theorem sub_any (b k m len C capr capc : Nat) (rl sl : List Nat) (pr pc : Option Addr) (WS : World) (hC : Cd WS b k m) (hr : Il WS pr rl) (hs : Il WS pc sl) (hrl : rl.length = len) (hsl : sl.length = C) (hrm : ∀ i, i < len → rl.getD i 0 < m) (hsk : ∀ j, j < C → sl.getD j 0 < k) (hlen : len ≤ 64) (hC64 : C ≤ 64) :
    Calls Tryz.prog 282 #[.pointer (some ⟨b, 0, none⟩), .slice pr len capr, .slice pc C capc] WS fun e w' => ∃ G, e = .returned (.slice (some ⟨G, 0, none⟩) len len) ∧ Prt w' (some ⟨G, 0, none⟩) (rowsL len C (cutM k rl sl)) ∧ Below WS.heap.size WS w' := by
  obtain ⟨hk1, hm1, hkm, f, G, D, c1, c2, hF, hMr⟩ := hC
  have hmk8 : len < 100000000 := by omega
  have HC1 := Lib.hid c2
  have HMr := Lib.hid hMr
  have HR1 := Lib.hid hr
  have HS1 := Lib.hid hs
  have HRL := Lib.hid hrl
  have HSL := Lib.hid hsl
  have HRM := Lib.hid hrm
  have HSK := Lib.hid hsk
  have hct := Ct.zero (N := WS.heap.size) (Row.new WS 53 len (fun _ => .slice none 0 0)) (Nat.le_refl _)
  have hbz : Below WS.heap.size WS (WS.alloc (.cells (tab len (fun _ => .slice none 0 0)) 53)) := (Below.refl _ _).alloc (Nat.le_refl _) _
  have HCT := Lib.hid hct
  have HBZ := Lib.hid hbz
  clear hct hbz hF hMr hr hs hrl hsl c1 c2 hrm hsk
  go_enter Tryz.func282, Tryz.ntmps282
  go_wp2
  generalize WS.alloc (.cells (tab len (fun _ => .slice none 0 0)) 53) = WT at *
  generalize hM0 : WS.heap.size = M0 at *
  have HM0 := Lib.hid hM0
  clear hM0
  go_loopw [8, 9, 17] (fun _ _ i wv => ∃ i0 : Nat, i0 ≤ len ∧ i = .int .i64 i0 ∧ ∃ V, Ct wv M0 M0 len V (fun i => if i < i0 then rowL C (cutM k rl sl) i else []) ∧ Below M0 WS wv) (fun _ _ i _ => len - (intOf i).toNat)
  case atStart => exact ⟨0, Nat.zero_le _, rfl, _, HCT.out.congr fun i hi => by rw [if_neg (by omega)], HBZ.out⟩
  case round =>
    clear HCT HBZ
    obtain ⟨i0, hi0, rfl, V, hC, hB⟩ := hrel
    rename World => WV
    have HC := Lib.hid hC
    have HB := Lib.hid hB
    by_cases hi : i0 < len
    · have hdi : decide ((i0 : Int) < (len : Int)) = true := decide_eq_true (by omega)
      have hi00 : (i0 : Int) < (len : Int) := by omega
      obtain ⟨gr, rfl, hgr, x0⟩ := HR1.out i0 (by rw [HRL.out]; exact hi)
      have x1 : WV.cell? ⟨gr, i0, none⟩ = some (.int .i64 ((rl.getD i0 0 : Nat) : Int)) := by rw [hB.cell (by rw [← HM0.out]; exact hgr)]; exact x0
      have HC1' := Lib.hid (HC.out.congr (L' := setL (fun i => if i < i0 then rowL C (cutM k rl sl) i else []) i0 (rowL 0 (cutM k rl sl) i0)) fun i _ => by
        unfold setL
        by_cases h : i = i0
        · rw [if_pos h, h, if_neg (by omega)]; rfl
        · rw [if_neg h])
      clear HC hC hB x0
      generalize hru0 : rl.getD i0 0 = ru at *
      have HRU := Lib.hid hru0
      clear hru0
      go_wp2
      clear x1
      go_loopw [11, 24] (fun _ i wv => ∃ j : Nat, j ≤ C ∧ i = .int .i64 j ∧ ∃ V, Ct wv M0 M0 len V (setL (fun i => if i < i0 then rowL C (cutM k rl sl) i else []) i0 (rowL j (cutM k rl sl) i0)) ∧ Below M0 WS wv) (fun _ i _ => C - (intOf i).toNat)
      case atStart => exact ⟨0, Nat.zero_le _, rfl, V, HC1'.out, HB.out⟩
      case round =>
        clear HC1' HB
        obtain ⟨j, hj, rfl, V, hC, hB⟩ := hrel
        rename World => WW
        have HC := Lib.hid hC
        have HB := Lib.hid hB
        by_cases hjl : j < C
        · have hdj : decide ((j : Int) < (C : Int)) = true := decide_eq_true (by omega)
          have hj0 : (j : Int) < (C : Int) := by omega
          have kp : ∀ a : Addr, ∀ v, WS.cell? a = some v → WW.cell? a = some v := fun a v h => by
            rw [hB.cell (by rw [← HM0.out]; exact World.block_lt_of_cell? WS a h)]; exact h
          have hru : ru < m := by rw [← HRU.out]; exact HRM.out i0 hi
          have hsu : sl.getD j 0 < k := HSK.out j hjl
          obtain ⟨gc, rfl, hgc, x0⟩ := HS1.out j (by rw [HSL.out]; exact hjl)
          have x2 := kp _ _ x0
          have x3 := kp _ _ (HMr.out.cellH ru hru hru)
          have x4 := kp _ _ (HMr.out.cell ru (sl.getD j 0) hru hsu)
          have x7 := kp _ _ HC1.out
          have hown := hC.own i0 hi
          rw [show setL (fun i => if i < i0 then rowL C (cutM k rl sl) i else []) i0 (rowL j (cutM k rl sl) i0) i0 = rowL j (cutM k rl sl) i0 from if_pos rfl] at hown
          obtain ⟨qv, cv, hVi, -, -, -⟩ := hown.shape
          rw [rowL_length] at hVi
          have x5 := hC.hds.cell i0 hi
          rw [hVi] at x5
          have x6 : WW.frozen? ⟨M0, i0, none⟩ = false := hC.hds.free i0
          have hMlt : M0 < WW.heap.size := hC.hds.lt
          have HVI := Lib.hid hVi
          have HNX := Lib.hid (show rowL j (cutM k rl sl) i0 ++ [cau k ru (sl.getD j 0)] = rowL (j + 1) (cutM k rl sl) i0 from by rw [← HRU.out]; exact (range_snoc _ _).symm)
          have HLW := Lib.hid (rowL_length j (cutM k rl sl) i0)
          generalize hcx : cau k ru (sl.getD j 0) = bx at *
          generalize sl.getD j 0 = su at *
          have y1 : (ru : Int) < (m : Int) := by omega
          have y2 : (su : Int) < (k : Int) := by omega
          have hMW : M0 ≤ WW.heap.size := by have := hB.size; have := HM0.out; omega
          have hbA : Below WW.heap.size WW (WW.drew.alloc (.cells #[B bx] 5)) := ((Below.refl _ _).drew).alloc (Nat.le_refl _) _
          have HCW := Lib.hid (hC.of_below hbA)
          have HOW := Lib.hid (hown.of_below hbA)
          have HBW := Lib.hid (show Below M0 WS (WW.drew.alloc (.cells #[B bx] 5)) from (hB.drew).alloc hMW _)
          have HXW := Lib.hid (show (WW.drew.alloc (.cells #[B bx] 5)).cell? ⟨WW.heap.size, 0, none⟩ = some (B bx) from World.cell?_alloc_new _ _ _ _)
          have hMW2 : M0 ≤ (WW.drew.alloc (.cells #[B bx] 5)).heap.size := by rw [World.size_alloc]; exact Nat.le_succ_of_le hMW
          rw [hVi] at hown
          have HOW2 := Lib.hid (show OwnB (WW.drew.alloc (.cells #[B bx] 5)) M0 (.slice qv j cv) (rowL j (cutM k rl sl) i0) from by rw [← HVI.out]; exact HOW.out)
          clear kp hC hB hown hVi hbA hcx HOW x0
          go_wp2
          go_region_law (first | (refine step_pushB rfl (.tmp 33) (.tmp 44) rfl M0 (.slice qv j cv) (rowL j (cutM k rl sl) i0) rfl HOW2.out ⟨WW.heap.size, 0, none⟩ rfl bx HXW.out j HLW.out (by omega) hMW2 ?_; rintro g9 d9 w9 hO9 hg9 ho9; have r9 := HCW.out.hds.of_block (hg9.block M0 HCW.out.hds.lt (by rw [← HVI.out]; exact Ne.symm (HCW.out.neG i0 hi))); have c9 : (w9.cell? ⟨M0, i0, none⟩).isSome = true := (by rw [r9.cell i0 hi]; rfl); have f9 : w9.frozen? ⟨M0, i0, none⟩ = false := r9.free i0; have HC9 := Lib.hid (HCW.out.push i0 hi hO9 (by rw [HVI.out]; exact hg9) (by rw [HVI.out]; exact ho9)); have HB9 := Lib.hid (HBW.out.grown hg9 hMW2 (fun g hg => (HOW2.out.lt g hg).1)); clear hO9 hg9 ho9 r9))
          all_goals
            go_wp2
            go_roundw
            case rel =>
              refine ⟨j + 1, by omega, by go_num, _, HC9.out.congr fun i _ => ?_, HB9.out.setCell (Nat.le_refl _) _⟩
              unfold setL
              by_cases h : i = i0
              · rw [if_pos h, if_pos h, HNX.out]
              · rw [if_neg h, if_neg h]
                exact (if_neg h).symm
            case measure => simp [intOf]; omega
        · have hdj : decide ((j : Int) < (C : Int)) = false := decide_eq_false (by omega)
          obtain rfl : j = C := by omega
          clear hC hB
          go_wp2
          go_roundw
          case rel =>
            refine ⟨i0 + 1, by omega, by go_num, V, HC.out.congr fun i hi => ?_, HB.out⟩
            unfold setL
            by_cases h : i = i0
            · rw [if_pos h, h, if_pos (by omega)]
            · rw [if_neg h]
              show (if i < i0 then rowL j (cutM k rl sl) i else []) = _
              by_cases h2 : i < i0
              · rw [if_pos h2, if_pos (by omega)]
              · rw [if_neg h2, if_neg (by omega)]
          case measure => simp [intOf]; omega
    · have hdi : decide ((i0 : Int) < (len : Int)) = false := decide_eq_false (by omega)
      obtain rfl : i0 = len := by omega
      have hprt := (HC.out.congr (L' := rowL C (cutM k rl sl)) fun i hi => if_pos hi).prt
      have HPT := Lib.hid (show Prt WV (some ⟨M0, 0, none⟩) (rowsL i0 C (cutM k rl sl)) from hprt)
      clear hprt HC hC hB
      go_wp2
      go_ret
      exact ⟨M0, rfl, HPT.out, by rw [HM0.out]; exact HB.out⟩
end Go.Proofs.YtnmopjefjpifoaaGreatDoor
/- Rows added by the program's field (the text Plus, over the text Two: in seats that have the matrices). -/
set_option maxRecDepth 100000
namespace Go.Proofs.YtnmopjefjpifoaaGreatDoor
open Go Go.RowKit
attribute [-go_sem] Sha.exec_store

attribute [local go_sem ↓] exec_store exec_make exec_bs
attribute [local go_sem] st_B st_I st_b mkB
attribute [local go_sem] bs2
set_option maxHeartbeats 4000000 in
theorem plus_any (b : Nat) (l m : List (BitVec 8)) (p q : Option Addr) (n cap cap' : Nat) (w : World) (hs : Sl w p l) (ht : Sl w q m) (hl : l.length = n) (hm : m.length = n) (hn : n < 4294967296) :
    Calls Tryz.prog 280 #[.pointer (some ⟨b, 0, none⟩), .slice p n cap, .slice q n cap'] w fun e w' =>
      e = .returned (.tuple #[.slice (some ⟨w.heap.size, 0, none⟩) n n, .int .i64 0]) ∧ Row w' w.heap.size 5 n (fun j => B (l.getD j 0#8 ^^^ m.getD j 0#8)) ∧ Below w.heap.size w w' := by
  have HS := Lib.hid hs
  have HT := Lib.hid ht
  have HL := Lib.hid hl
  have HM := Lib.hid hm
  have hr : Row (w.alloc (.cells (zb n) 5)) w.heap.size 5 n (fun j => B 0#8) := Row.new w _ n _
  have hb : Below w.heap.size w (w.alloc (.cells (zb n) 5)) := (Below.refl _ _).alloc (Nat.le_refl _) _
  clear hs ht hl hm
  go_enter Tryz.func280, Tryz.ntmps280
  go_wp2
  generalize w.alloc (.cells (zb n) 5) = w1 at *
  have HR := Lib.hid (hr.congr fun j _ => upto_zero (fun j => l.getD j 0#8 ^^^ m.getD j 0#8) j)
  have HB := Lib.hid hb
  clear hr hb
  generalize hN : w.heap.size = N at *
  have HN := Lib.hid hN
  clear hN
  go_loopw [20] (fun i wr => ∃ k : Nat, k ≤ n ∧ i = .int .i64 k ∧ Row wr N 5 n (upto (fun j => l.getD j 0#8 ^^^ m.getD j 0#8) k) ∧ Below N w wr) (fun i _ => n - (intOf i).toNat)
  case atStart => exact ⟨0, Nat.zero_le _, rfl, HR.out, HB.out⟩
  case round =>
    clear HR HB
    obtain ⟨k, hk, rfl, hR, hB⟩ := hrel
    have HB := Lib.hid hB
    have HR := Lib.hid hR
    by_cases hlt : k < n
    · obtain ⟨c, o, rfl, hc⟩ := HS.out k (by rw [HL.out]; exact hlt)
      obtain ⟨c', o', rfl, hc'⟩ := HT.out k (by rw [HM.out]; exact hlt)
      have hx : wr.cell? ⟨c, o + k, none⟩ = some (B (l.getD k 0#8)) := by
        rw [hB.cell (by rw [← HN.out]; exact World.block_lt_of_cell? w _ hc)]; exact hc
      have hy : wr.cell? ⟨c', o' + k, none⟩ = some (B (m.getD k 0#8)) := by
        rw [hB.cell (by rw [← HN.out]; exact World.block_lt_of_cell? w _ hc')]; exact hc'
      have hd0 : decide ((k : Int) < (n : Int)) = true := decide_eq_true (by omega)
      have hl0 : (k : Int) < (n : Int) := by omega
      have HST := Lib.hid (fun j (_ : j < n) => upto_step (fun j => l.getD j 0#8 ^^^ m.getD j 0#8) k j)
      generalize l.getD k 0#8 = x at *
      generalize m.getD k 0#8 = y at *
      have hNlt : N < wr.heap.size := hR.lt
      have hcN : c < N := by rw [← HN.out]; exact World.block_lt_of_cell? w _ hc
      have hcN' : c' < N := by rw [← HN.out]; exact World.block_lt_of_cell? w _ hc'
      clear hR hB hc hc'
      have HPOST : Hid (∀ w2, Dr (wr.alloc (.cells #[B x, B y] 5)).drew w2 → Row w2 N 5 n (upto (fun j => l.getD j 0#8 ^^^ m.getD j 0#8) k) ∧ Below N w w2 ∧
          w2.cell? ⟨c, o + k, none⟩ = some (B x) ∧ w2.cell? ⟨c', o' + k, none⟩ = some (B y)) := by
        intro w2 hD2
        have hb0 : Below wr.heap.size wr (wr.alloc (.cells #[B x, B y] 5)).drew := ((Below.refl _ _).alloc (Nat.le_refl _) _).drew
        refine ⟨(HR.out.of_below hb0).dr hD2, (HB.out.trans (hb0.mono (Nat.le_of_lt hNlt))).trans (hD2.below N), ?_, ?_⟩
        · rw [hD2.cell, hb0.cell (World.block_lt_of_cell? wr _ hx)]; exact hx
        · rw [hD2.cell, hb0.cell (World.block_lt_of_cell? wr _ hy)]; exact hy
      go_wp2_with fail
      go_region_held3 (fun w' : World => w'.cell? ⟨c, o + k, none⟩ = some (B x) ∧ w'.cell? ⟨c', o' + k, none⟩ = some (B y)) (first | go_keep | exact ⟨hs1 _, hs2 _⟩) ((first | (go_at_call 272; refine (add_two _ x y _ _ (by exact Sl_two _ x y _)).mono ?_; rintro e w2 ⟨rfl, hD2⟩; obtain ⟨hR2, hB2, hx2, hy2⟩ := HPOST.out w2 hD2; have c1 : (w2.cell? ⟨N, k, none⟩).isSome = true := (by rw [hR2.cell k (by omega)]; rfl); have f1 : w2.frozen? ⟨N, k, none⟩ = false := hR2.free k; have hs1 : ∀ v, (w2.setCell ⟨N, k, none⟩ v).cell? ⟨c, o + k, none⟩ = some (B x) := (fun v => by rw [World.cell?_setCell_other _ _ _ _ (by intro e; injection e; omega)]; exact hx2); have hs2 : ∀ v, (w2.setCell ⟨N, k, none⟩ v).cell? ⟨c', o' + k, none⟩ = some (B y) := (fun v => by rw [World.cell?_setCell_other _ _ _ _ (by intro e; injection e; omega)]; exact hy2); have HR2 := Lib.hid ((hR2.set k (B (x ^^^ y))).congr HST.out); have HB2 := Lib.hid hB2; clear hR2 hB2 hD2)))
      clear HPOST
      go_wp2
      go_roundw
      case rel => exact ⟨k + 1, by omega, by go_num, HR2.out, HB2.out.setCell (Nat.le_refl _) _⟩
      case measure => simp [intOf]; omega
    · have hd0 : decide ((k : Int) < (n : Int)) = false := decide_eq_false (by omega)
      have he : Hid (k = n) := by show k = n; omega
      clear hR hB
      go_wp2
      go_ret2
      refine ⟨by rw [HN.out]; rfl, ?_, by rw [HN.out]; exact HB.out⟩
      rw [HN.out]
      have := HR.out
      rw [he.out] at this
      exact this.congr fun j hj => upto_full _ _ _ hj
end Go.Proofs.YtnmopjefjpifoaaGreatDoor
