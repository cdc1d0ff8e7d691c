/- DiskSafe: the statement's walk. -/
import Derived.Test.YtjglgohchhdkkaaGreatDoorK11
import Derived.Test.YtjglgohchhdkkaaGreatDoorK10
import Derived.Test.YtjglgohchhdkkaaGreatDoorK8
set_option linter.unusedSimpArgs false
set_option linter.unusedVariables false
namespace Go.Proofs.YtjglgohchhdkkaaGreatDoor
open Go Go.RowKit

theorem boxA2_cell (w : World) (x : Ac × AcH) : ∀ j, (w.alloc (.cells #[.int .u8 (x.1.kind : Int), .string (mkS x.1.path), .string (mkS x.1.to_), .slice x.2.bq x.1.b.length x.2.bc, .int .i64 x.1.n, .slice x.2.kp x.1.ks.length x.2.kc] 35)).cell? ⟨w.heap.size, j, none⟩ = (encA x)[j]? := by
  intro j
  have hh := World.alloc_heap_new w (.cells #[.int .u8 (x.1.kind : Int), .string (mkS x.1.path), .string (mkS x.1.to_), .slice x.2.bq x.1.b.length x.2.bc, .int .i64 x.1.n, .slice x.2.kp x.1.ks.length x.2.kc] 35)
  unfold World.cell?
  rw [hh]
  simp [encA]
theorem In3.from {Sx Sy : Nat → Prop} {B N : Nat} (hx : ∀ k, Sx k → N ≤ k) (hy : ∀ k, Sy k → N ≤ k) (hB : N ≤ B) : ∀ k, In3 Sx Sy B k → N ≤ k := fun k hk => by
  rcases hk with z | z | z
  · exact hx k z
  · exact hy k z
  · omega
theorem later_step {m0 m : Dk} (h : Later m0 m) (x : Ac) (hk : x.kind % 7 < 3) : Later m0 (stepL m x) := by
  unfold stepL
  rcases (show x.kind % 7 = 0 ∨ x.kind % 7 = 1 ∨ x.kind % 7 = 2 by omega) with e | e | e
  · rw [e]; exact h.write _ _ _
  · rw [e]; exact h.rename _ _
  · rw [e]; exact h.remove _
theorem seen64_step {m : Dk} (h : m.seen.length ≤ 64) (x : Ac) (hk : x.kind % 7 < 3) : (stepL m x).seen.length ≤ 64 := by
  unfold stepL
  rcases (show x.kind % 7 = 0 ∨ x.kind % 7 = 1 ∨ x.kind % 7 = 2 by omega) with e | e | e
  · rw [e]; exact seen64_write h _ _ _
  · rw [e]; exact seen64_rename h _ _
  · rw [e]; exact seen64_remove h _
/-- Without the list of changes. -/
def nwD (m : Dk) : Dk := { m with waits := [] }
def nwH (h : Hd) : Hd := { h with wp := none, wn := 0, wc := 0 }
theorem RfG.nw {G : Nat → Prop} {w : World} {m : Dk} {h : Hd} (r : RfG G w m h) : RfG G w (nwD m) (nwH h) := ⟨r.bodies, r.seen, r.safe, LsG.none0 _ _ _⟩
theorem DkOk.nw {n : Nat} {m : Dk} (h : DkOk n m) : DkOk n (nwD m) :=
  ⟨h.seen, by have := h.both; show m.safe.length + 0 ≤ n; omega, h.bod, h.cnt0, h.cnt1, h.shS, h.shF, fun c hc => absurd hc (by simp [nwD]), h.inS, h.inF, fun c hc => absurd hc (by simp [nwD]), h.bs⟩
theorem cell_set_far {u : World} {a b : Nat} {i : Nat} (v : Value) (hne : b ≠ a) (j : Nat) : (u.setCell ⟨a, i, none⟩ v).cell? ⟨b, j, none⟩ = u.cell? ⟨b, j, none⟩ :=
  World.cell?_of_block (w := u) (w' := u.setCell ⟨a, i, none⟩ v) (a := ⟨b, j, none⟩) (Below.heap_setCell u ⟨a, i, none⟩ v b hne)
set_option maxRecDepth 100000 in
theorem cell_nw {u : World} {b : Nat} {m : Dk} {h : Hd} (hc : ∀ j, u.cell? ⟨b, j, none⟩ = (lisD m h)[j]?) (j : Nat) : (u.setCell ⟨b, 5, none⟩ (.slice none 0 0)).cell? ⟨b, j, none⟩ = (lisD (nwD m) (nwH h))[j]? := by
  by_cases e : j = 5
  · subst e
    exact World.cell?_setCell_same' _ _ _ (by rw [hc 5]; rfl)
  · rw [World.cell?_setCell_other _ _ _ _ (by intro q; injection q with _ q2; exact e q2.symm), hc j]
    rcases (show j = 0 ∨ j = 1 ∨ j = 2 ∨ j = 3 ∨ j = 4 ∨ 6 ≤ j by omega) with q | q | q | q | q | q
    · rw [q]; rfl
    · rw [q]; rfl
    · rw [q]; rfl
    · rw [q]; rfl
    · rw [q]; rfl
    · rw [List.getElem?_eq_none (by exact q), List.getElem?_eq_none (by exact q)]
theorem kq_two (u : World) (a b : Nat) : Kq8 (fun k => k = a ∨ k = b) u ((u.setCell ⟨a, 5, none⟩ (.slice none 0 0)).setCell ⟨b, 5, none⟩ (.slice none 0 0)) := by
  have h := ((Below.refl 0 u).setCell (p := ⟨a, 5, none⟩) (Nat.zero_le _) (.slice none 0 0)).setCell (p := ⟨b, 5, none⟩) (Nat.zero_le _) (.slice none 0 0)
  exact ⟨h.os, h.tape, h.output, h.size, fun k _ hn => (Below.heap_setCell _ ⟨b, 5, none⟩ _ k (fun e => hn (.inr e))).trans (Below.heap_setCell _ ⟨a, 5, none⟩ _ k (fun e => hn (.inl e)))⟩
set_option maxRecDepth 100000 in
theorem mkT8 (n : Nat) (w : World) (hn : n < 100000000) : (mkT 33 (.int .i64 (n : Int)) (.int .i64 (n : Int))).run Tryz.prog w = .ok (.value (.slice (some ⟨w.heap.size, 0, none⟩) n n)) (w.alloc (.cells (tab n (fun _ => .bool false)) 4)) := by
  have hi : (Tryz.prog.info? 4).map (fun i => (i.zero, i.size, i.bytes)) = some (some (.bool false), 1, 1) := by kernel_rfl
  cases hq : Tryz.prog.info? 4 with
  | none => simp [hq] at hi
  | some i =>
    rw [hq] at hi
    simp only [Option.map_some, Option.some.injEq, Prod.mk.injEq] at hi
    obtain ⟨h1, h2, h3⟩ := hi
    have := run_make (P := Tryz.prog) w 33 4 i (.bool false) (by kernel_rfl) hq h1 .i64 .i64 n n (by omega) (Int.le_refl _) (by rw [h3]; omega) (by omega)
    rw [h2] at this
    simp only [Int.toNat_natCast, Nat.mul_one] at this
    simp only [mkT, Sem.run_bind, this, Result.andThen_ok, Sem.run_pure]
    congr 2
    rw [tab_const]
    congr 1
    apply Array.ext_getElem?
    intro j
    by_cases hj : j < n <;> simp [madeCells, Value.cells, hj, Nat.mod_one]
attribute [local go_sem ↓] exec_make
attribute [local go_sem] mkT8
/-- What the first loop carries. -/
def LpA (N : Nat) (bx by_ B : Nat) (w wr : World) (k : Nat) : Prop := ∃ h m Sx Sy, Pl2 N wr Sx Sy (fun k => k = B) bx by_ B m m m h ∧ DkOk k m ∧ m.room = 5000 ∧ Below N w wr
/-- What the second loop carries: from the world wl, the disk m0. -/
def LpB (N : Nat) (bx by_ B T : Nat) (w wl : World) (Tx Ty : Nat → Prop) (m0 : Dk) (wr : World) (k : Nat) : Prop := ∃ h m Sx Sy, Pl2 N wr Sx Sy (fun k => k = B ∨ k = T) bx by_ B m m m h ∧ DkOk (50 + k) m ∧ m.room = 5000 ∧ m.seen.length ≤ 64 ∧ Later m0 m ∧ Kq8 (In3 Tx Ty B) wl wr ∧ GrewTo wl.heap.size Tx Sx ∧ GrewTo wl.heap.size Ty Sy ∧ Below N w wr
set_option maxRecDepth 100000 in
set_option maxHeartbeats 8000000 in
theorem safe_long (la : List (Ac × AcH)) (pa : Option Addr) (na capa : Nat) (lb : List (Ac × AcH)) (pb : Option Addr) (n capb : Nat) (w : World)
    (ha : AcsL w pa na capa la) (hna : na < 9223372036854775808) (hza : ∀ x ∈ la, x.1.path.length < 9223372036854775808 ∧ x.1.to_.length < 9223372036854775808 ∧ x.1.b.length < 9223372036854775808 ∧ x.1.ks.length < 9223372036854775808) (hka : ∀ x ∈ la, x.1.kind < 256)
    (hb : AcsL w pb n capb lb) (hnb : n < 9223372036854775808) (hzb : ∀ x ∈ lb, x.1.path.length < 9223372036854775808 ∧ x.1.to_.length < 9223372036854775808 ∧ x.1.b.length < 9223372036854775808 ∧ x.1.ks.length < 9223372036854775808) (hkb : ∀ x ∈ lb, x.1.kind < 256) (hs : (shortL la && shortL lb) = false) :
    Calls Tryz.prog 4 #[.slice pa na capa, .slice pb n capb] w fun e w' => e = .returned (.bool true) ∧ Below w.heap.size w w' := by
  have HAW := Lib.hid awake8
  have HSHA := Lib.hid (fun (u : World) (hu : Below w.heap.size w u) => short_any la pa na capa hna hza u (ha.of_below hu))
  have HSHB := Lib.hid (fun (u : World) (hu : Below w.heap.size w u) => short_any lb pb n capb hnb hzb u (hb.of_below hu))
  have HLa := Lib.hid ha
  have HLb := Lib.hid hb
  have HKDa := Lib.hid hka
  have HKDb := Lib.hid hkb
  cases hsa : shortL la with
  | false =>
    rw [hsa] at HSHA
    clear hsa hs ha hza hka hna hb hzb hkb hnb
    go_enter Tryz.func4, Tryz.ntmps4
    go_wp2_with fail
    refine (HAW.out w).mono ?_
    rintro e w1 ⟨rfl, hB1⟩
    have HB1 := Lib.hid hB1
    clear hB1
    go_wp2_with fail
    refine (HSHA.out w1 HB1.out).mono ?_
    rintro e w2 ⟨rfl, hB2⟩
    have HB2 := Lib.hid (HB1.out.trans (hB2.mono HB1.out.size))
    clear hB2
    go_wp2_with fail
    refine (HAW.out w2).mono ?_
    rintro e w9 ⟨rfl, hB9⟩
    have HB9 := Lib.hid (HB2.out.trans (hB9.mono HB2.out.size))
    clear hB9
    go_wp2
    go_ret
    exact ⟨rfl, HB9.out⟩
  | true =>
    have hsb : shortL lb = false := by rw [hsa] at hs; exact hs
    rw [hsa] at HSHA
    rw [hsb] at HSHB
    clear hsa hsb hs ha hza hka hna hb hzb hkb hnb
    go_enter Tryz.func4, Tryz.ntmps4
    go_wp2_with fail
    refine (HAW.out w).mono ?_
    rintro e w1 ⟨rfl, hB1⟩
    have HB1 := Lib.hid hB1
    clear hB1
    go_wp2_with fail
    refine (HSHA.out w1 HB1.out).mono ?_
    rintro e w2 ⟨rfl, hB2⟩
    have HB2 := Lib.hid (HB1.out.trans (hB2.mono HB1.out.size))
    clear hB2
    go_wp2_with fail
    refine (HSHB.out w2 HB2.out).mono ?_
    rintro e w3 ⟨rfl, hB3⟩
    have HB3 := Lib.hid (HB2.out.trans (hB3.mono HB2.out.size))
    clear hB3
    go_wp2_with fail
    refine (HAW.out w3).mono ?_
    rintro e w9 ⟨rfl, hB9⟩
    have HB9 := Lib.hid (HB3.out.trans (hB9.mono HB3.out.size))
    clear hB9
    go_wp2
    go_ret
    exact ⟨rfl, HB9.out⟩
set_option maxRecDepth 100000 in
set_option maxHeartbeats 8000000 in
theorem safe_short (la : List (Ac × AcH)) (pa : Option Addr) (na capa : Nat) (lb : List (Ac × AcH)) (pb : Option Addr) (n capb : Nat) (w : World)
    (ha : AcsL w pa na capa la) (hna : na < 9223372036854775808) (hza : ∀ x ∈ la, x.1.path.length < 9223372036854775808 ∧ x.1.to_.length < 9223372036854775808 ∧ x.1.b.length < 9223372036854775808 ∧ x.1.ks.length < 9223372036854775808) (hka : ∀ x ∈ la, x.1.kind < 256)
    (hb : AcsL w pb n capb lb) (hnb : n < 9223372036854775808) (hzb : ∀ x ∈ lb, x.1.path.length < 9223372036854775808 ∧ x.1.to_.length < 9223372036854775808 ∧ x.1.b.length < 9223372036854775808 ∧ x.1.ks.length < 9223372036854775808) (hkb : ∀ x ∈ lb, x.1.kind < 256) (hs : (shortL la && shortL lb) = true) :
    Calls Tryz.prog 4 #[.slice pa na capa, .slice pb n capb] w fun e w' => e = .returned (.bool true) ∧ Below w.heap.size w w' := by
  have HAW := Lib.hid awake8
  have HSHA := Lib.hid (fun (u : World) (hu : Below w.heap.size w u) => short_any la pa na capa hna hza u (ha.of_below hu))
  have HSHB := Lib.hid (fun (u : World) (hu : Below w.heap.size w u) => short_any lb pb n capb hnb hzb u (hb.of_below hu))
  have HLa := Lib.hid ha
  have HLb := Lib.hid hb
  have HKDa := Lib.hid hka
  have HKDb := Lib.hid hkb
  have hsa : shortL la = true := by cases e : shortL la with
    | true => rfl
    | false => rw [e] at hs; cases hs
  have hsb : shortL lb = true := by rw [hsa] at hs; exact hs
  rw [hsa] at HSHA
  rw [hsb] at HSHB
  obtain ⟨hla40, hlax⟩ := shortL_facts hsa
  obtain ⟨hlb40, hlbx⟩ := shortL_facts hsb
  have HLXa := Lib.hid hlax
  have HLXb := Lib.hid hlbx
  have hna40 : na ≤ 40 := by rw [← ha.len]; exact hla40
  have hn40 : n ≤ 40 := by rw [← hb.len]; exact hlb40
  have HNW := Lib.hid (fun u => dnew_any 5000 u)
  rw [show clampL 5000 = 5000 by decide] at HNW
  clear hsa hsb hs ha hza hka hna hb hzb hkb hnb hla40 hlax hlb40 hlbx
  go_enter Tryz.func4, Tryz.ntmps4
  go_wp2_with fail
  refine (HAW.out w).mono ?_
  rintro e w1 ⟨rfl, hB1⟩
  have HB1 := Lib.hid hB1
  clear hB1
  go_wp2_with fail
  refine (HSHA.out w1 HB1.out).mono ?_
  rintro e w2 ⟨rfl, hB2⟩
  have HB2 := Lib.hid (HB1.out.trans (hB2.mono HB1.out.size))
  clear hB2
  go_wp2_with fail
  refine (HSHB.out w2 HB2.out).mono ?_
  rintro e w2b ⟨rfl, hB3⟩
  have HB2b := Lib.hid (HB2.out.trans (hB3.mono HB2.out.size))
  clear hB3
  go_wp2_with fail
  refine (HNW.out w2b).mono ?_
  rintro e wx ⟨bx, rfl, hDx, hBx⟩
  go_wp2_with fail
  refine (HNW.out wx).mono ?_
  rintro e w3 ⟨by_, rfl, hDy, hBy⟩
  have HB3 := Lib.hid (HB2b.out.trans ((hBx.trans (hBy.mono hBx.size)).mono HB2b.out.size))
  have hst : LpA w.heap.size bx by_ w3.heap.size w (w3.alloc (.cells #[.int .i64 (⟨5000, 0, [], [], [], []⟩ : Dk).room, .int .i64 (⟨5000, 0, [], [], [], []⟩ : Dk).count, .slice hd0.bp hd0.bn hd0.bc, .slice hd0.sp hd0.sn hd0.sc, .slice hd0.fp hd0.fn hd0.fc, .slice hd0.wp hd0.wn hd0.wc] 31)) 0 := by
    have hB4 := (Below.refl w3.heap.size w3).alloc (Nat.le_refl _) (boxD ⟨5000, 0, [], [], [], []⟩ hd0)
    have hh := World.alloc_heap_new w3 (boxD ⟨5000, 0, [], [], [], []⟩ hd0)
    have q1 := HB2b.out.size
    have q2 := hBx.size
    have q3 := hBy.size
    refine ⟨hd0, ⟨5000, 0, [], [], [], []⟩, fun k => w2b.heap.size ≤ k ∧ k < wx.heap.size, fun k => wx.heap.size ≤ k ∧ k < w3.heap.size, ⟨(hDx.of_below hBy).of_below hB4, hDy.of_below hB4, fun k h1 h2 => by omega, RfG.zero _ _ _, rfl, fun k hk => by rw [World.size_alloc]; exact hk ▸ Nat.lt_succ_self _, boxD_cell w3 _ _, fun j => ?_, by rw [World.size_alloc]; exact Nat.lt_succ_self _, fun x => by omega, fun x => by omega, fun k hk => by omega, fun k hk => by omega⟩, DkOk.zero 5000, rfl, HB3.out.trans (hB4.mono HB3.out.size)⟩
    unfold World.frozen?
    rw [show (w3.alloc (.cells #[.int .i64 (⟨5000, 0, [], [], [], []⟩ : Dk).room, .int .i64 (⟨5000, 0, [], [], [], []⟩ : Dk).count, .slice hd0.bp hd0.bn hd0.bc, .slice hd0.sp hd0.sn hd0.sc, .slice hd0.fp hd0.fn hd0.fc, .slice hd0.wp hd0.wn hd0.wc] 31)).heap[w3.heap.size]? = _ from hh]
    simp [boxD]
  have HST := Lib.hid hst
  have HNB := Lib.hid (show w.heap.size ≤ w3.heap.size from HB3.out.size)
  clear hst hDx hBx hDy hBy
  go_wp2
  go_loopw [41] (fun i wr => ∃ k : Nat, k ≤ na ∧ i = .int .i64 k ∧ LpA w.heap.size bx by_ w3.heap.size w wr k) (fun i _ => na - (intOf i).toNat)
  case atStart => exact ⟨0, Nat.zero_le _, rfl, HST.out⟩
  case round =>
    obtain ⟨k, hk, rfl, h, m, Sx, Sy, hI, hok, hrm, hB⟩ := hrel
    have HI := Lib.hid hI
    have HOK := Lib.hid hok
    have HRM := Lib.hid hrm
    have HB := Lib.hid hB
    have HSE := Lib.hid (show m.seen.length ≤ 64 by have := hok.seen; omega)
    clear hI hok hrm hB
    by_cases hlt : k < na
    · clear HST
      have hkl : k < la.length := by rw [HLa.out.len]; exact hlt
      obtain ⟨x, hx⟩ : ∃ x, la[k] = x := ⟨_, rfl⟩
      have hxm : x ∈ la := by rw [← hx]; exact List.getElem_mem hkl
      have HXK := Lib.hid (HKDa.out x hxm)
      have HXL := Lib.hid (HLXa.out x hxm)
      have hLr := HLa.out.of_below HB.out
      obtain ⟨c0, o0, hpe, hc0, hx0⟩ := hLr.cell (i := k) (j := 0) hkl (u := .int .u8 (x.1.kind : Int)) (by rw [hx]; rfl)
      have hF := fun j u (hu : (encA x)[j]? = some u) => (by
        obtain ⟨c1, o1, e1, _, h1⟩ := hLr.cell (i := k) (j := j) hkl (by rw [hx]; exact hu)
        rw [hpe] at e1
        injection e1 with e1
        injection e1 with e1 e2
        subst e1 e2
        rw [← Nat.add_assoc] at h1
        exact h1 : wr.cell? ⟨c0, o0 + k * 6 + j, none⟩ = some u)
      have a0 : wr.cell? ⟨c0, o0 + k * 6, none⟩ = some (.int .u8 (x.1.kind : Int)) := hF 0 _ rfl
      have a1 := hF 1 _ rfl
      have a2 := hF 2 _ rfl
      have a3 := hF 3 _ rfl
      have a4 := hF 4 _ rfl
      have a5 := hF 5 _ rfl
      have hba := (Below.refl wr.heap.size wr).alloc (Nat.le_refl _) (.cells #[.int .u8 (x.1.kind : Int), .string (mkS x.1.path), .string (mkS x.1.to_), .slice x.2.bq x.1.b.length x.2.bc, .int .i64 x.1.n, .slice x.2.kp x.1.ks.length x.2.kc] 35)
      have hac := boxA2_cell wr x
      have hmd := (HI.out.next hba).cell
      have d0 : (wr.alloc (.cells #[.int .u8 (x.1.kind : Int), .string (mkS x.1.path), .string (mkS x.1.to_), .slice x.2.bq x.1.b.length x.2.bc, .int .i64 x.1.n, .slice x.2.kp x.1.ks.length x.2.kc] 35)).cell? ⟨w3.heap.size, 0, none⟩ = some (.int .i64 m.room) := hmd 0
      have d1 : (wr.alloc (.cells #[.int .u8 (x.1.kind : Int), .string (mkS x.1.path), .string (mkS x.1.to_), .slice x.2.bq x.1.b.length x.2.bc, .int .i64 x.1.n, .slice x.2.kp x.1.ks.length x.2.kc] 35)).cell? ⟨w3.heap.size, 1, none⟩ = some (.int .i64 m.count) := hmd 1
      have d2 : (wr.alloc (.cells #[.int .u8 (x.1.kind : Int), .string (mkS x.1.path), .string (mkS x.1.to_), .slice x.2.bq x.1.b.length x.2.bc, .int .i64 x.1.n, .slice x.2.kp x.1.ks.length x.2.kc] 35)).cell? ⟨w3.heap.size, 2, none⟩ = some (.slice h.bp h.bn h.bc) := hmd 2
      have d3 : (wr.alloc (.cells #[.int .u8 (x.1.kind : Int), .string (mkS x.1.path), .string (mkS x.1.to_), .slice x.2.bq x.1.b.length x.2.bc, .int .i64 x.1.n, .slice x.2.kp x.1.ks.length x.2.kc] 35)).cell? ⟨w3.heap.size, 3, none⟩ = some (.slice h.sp h.sn h.sc) := hmd 3
      have d4 : (wr.alloc (.cells #[.int .u8 (x.1.kind : Int), .string (mkS x.1.path), .string (mkS x.1.to_), .slice x.2.bq x.1.b.length x.2.bc, .int .i64 x.1.n, .slice x.2.kp x.1.ks.length x.2.kc] 35)).cell? ⟨w3.heap.size, 4, none⟩ = some (.slice h.fp h.fn h.fc) := hmd 4
      have d5 : (wr.alloc (.cells #[.int .u8 (x.1.kind : Int), .string (mkS x.1.path), .string (mkS x.1.to_), .slice x.2.bq x.1.b.length x.2.bc, .int .i64 x.1.n, .slice x.2.kp x.1.ks.length x.2.kc] 35)).cell? ⟨w3.heap.size, 5, none⟩ = some (.slice h.wp h.wn h.wc) := hmd 5
      clear hmd
      have hza : wr.heap.size < (wr.alloc (.cells #[.int .u8 (x.1.kind : Int), .string (mkS x.1.path), .string (mkS x.1.to_), .slice x.2.bq x.1.b.length x.2.bc, .int .i64 x.1.n, .slice x.2.kp x.1.ks.length x.2.kc] 35)).heap.size := by rw [World.size_alloc]; exact Nat.lt_succ_self _
      obtain ⟨WA, hWA⟩ : ∃ WA, wr.alloc (.cells #[.int .u8 (x.1.kind : Int), .string (mkS x.1.path), .string (mkS x.1.to_), .slice x.2.bq x.1.b.length x.2.bc, .int .i64 x.1.n, .slice x.2.kp x.1.ks.length x.2.kc] 35) = WA := ⟨_, rfl⟩
      have HEA := Lib.hid hWA
      rw [hWA] at hba hac hza
      have HIA := Lib.hid (HI.out.next hba)
      have HBA := Lib.hid (HB.out.trans (hba.mono HB.out.size))
      have HBW := Lib.hid hba
      have HZA := Lib.hid hza
      have HAC := Lib.hid hac
      have HLB := Lib.hid (fun (S : Nat → Prop) (hS : ∀ c, S c → w.heap.size ≤ c) (u : World) (hu : Below w.heap.size w u) => ((HLa.out.byt x hxm).wider (G' := fun k => ¬ S k) fun c _ hc hs => by have := hS c hs; omega).keep (w' := u) (fun c _ hc => hu.block c hc) hu.size)
      have HLK := Lib.hid (fun (S : Nat → Prop) (hS : ∀ c, S c → w.heap.size ≤ c) (u : World) (hu : Below w.heap.size w u) => ((HLa.out.kep x hxm).wider (G' := fun k => ¬ S k) fun c _ hc hs => by have := hS c hs; omega).keep (w' := u) (fun c _ hc => hu.block c hc) hu.size)
      have HDO := Lib.hid (do8_any (w := WA) (S := Sx) (G := fun k => ¬ Sx k ∧ ¬ Sy k ∧ ¬ (k = w3.heap.size)) (b := bx) (m := m) (h := h) (x := x) ⟨HIA.out.dx, HOK.out.mono (by omega), HSE.out, by rw [HRM.out]; decide, by rw [HRM.out]; decide, fun k hk => hk.1, HIA.out.ref, HXK.out, HXL.out.1, HXL.out.2.1, HXL.out.2.2.1, HXL.out.2.2.2, HLB.out Sx HIA.out.fx WA HBA.out, HLK.out Sx HIA.out.fx WA HBA.out⟩)
      have z1 : (k : Int) < (na : Int) := by omega
      have z2 : decide ((k : Int) < (na : Int)) = true := decide_eq_true z1
      have hw64 := i64s k (by omega)
      obtain ⟨m2, hm2⟩ : ∃ m2, stepL m x.1 = m2 := ⟨_, rfl⟩
      rw [hm2] at HDO
      have HM2 := Lib.hid hm2
      rw [hpe]
      unfold aggD actV at HDO
      clear hLr hpe hc0 hx0 hF hx hxm hba hWA hac hza hm2
      go_wp2_with fail
      rw [HEA.out]
      refine HDO.out.mono ?_
      rintro e w4 ⟨h2, S2, rfl, hd2, hr2, hk2, hg2⟩
      unfold aggD
      have HNA := Lib.hid (show w.heap.size ≤ WA.heap.size from HBA.out.size)
      have hbb := (Below.refl w4.heap.size w4).alloc (Nat.le_refl _) (boxD m2 h2)
      have HI4 := Lib.hid ((HIA.out.callx hd2 hk2 hg2 HNA.out).next hbb)
      have HB4 := Lib.hid ((HBA.out.trans (hk2.below HIA.out.fx HNA.out)).trans (hbb.mono (Nat.le_trans HNA.out hk2.size)))
      have hnc := boxD_cell w4 m2 h2
      have hzn : w4.heap.size < (w4.alloc (boxD m2 h2)).heap.size := by rw [World.size_alloc]; exact Nat.lt_succ_self _
      have HD2 := Lib.hid hd2
      have HR2 := Lib.hid hr2
      have HK2 := Lib.hid hk2
      have HG2 := Lib.hid hg2
      have HBB := Lib.hid hbb
      have HNC := Lib.hid hnc
      have HZN := Lib.hid hzn
      have hae := fun j => ((HBB.out.cell (p := ⟨wr.heap.size, j, none⟩) (Nat.lt_of_lt_of_le HZA.out HK2.out.size)).trans ((World.cell?_of_block (w := WA) (w' := w4) (a := ⟨wr.heap.size, j, none⟩) (HK2.out.block _ HZA.out (fun q => Nat.lt_irrefl _ (HI.out.dx.low wr.heap.size q)))).trans (HAC.out j)) : (w4.alloc (boxD m2 h2)).cell? ⟨wr.heap.size, j, none⟩ = (encA x)[j]?)
      have hme := HI4.out.cell
      have HDP := Lib.hid (do8_any (w := w4.alloc (boxD m2 h2)) (S := Sy) (G := fun k => ¬ S2 k ∧ ¬ Sy k ∧ ¬ (k = w3.heap.size)) (b := by_) (m := m) (h := h) (x := x) ⟨HI4.out.dy, HOK.out.mono (by omega), HSE.out, by rw [HRM.out]; decide, by rw [HRM.out]; decide, fun k hk => hk.2.1, HI4.out.ref, HXK.out, HXL.out.1, HXL.out.2.1, HXL.out.2.2.1, HXL.out.2.2.2, HLB.out Sy HI4.out.fy _ HB4.out, HLK.out Sy HI4.out.fy _ HB4.out⟩)
      rw [HM2.out] at HDP
      unfold boxD at hae hme HDP
      unfold aggD actV at HDP
      have b0 : (w4.alloc (.cells #[.int .i64 m2.room, .int .i64 m2.count, .slice h2.bp h2.bn h2.bc, .slice h2.sp h2.sn h2.sc, .slice h2.fp h2.fn h2.fc, .slice h2.wp h2.wn h2.wc] 31)).cell? ⟨w3.heap.size, 0, none⟩ = some (.int .i64 m.room) := hme 0
      have b1 : (w4.alloc (.cells #[.int .i64 m2.room, .int .i64 m2.count, .slice h2.bp h2.bn h2.bc, .slice h2.sp h2.sn h2.sc, .slice h2.fp h2.fn h2.fc, .slice h2.wp h2.wn h2.wc] 31)).cell? ⟨w3.heap.size, 1, none⟩ = some (.int .i64 m.count) := hme 1
      have b2 : (w4.alloc (.cells #[.int .i64 m2.room, .int .i64 m2.count, .slice h2.bp h2.bn h2.bc, .slice h2.sp h2.sn h2.sc, .slice h2.fp h2.fn h2.fc, .slice h2.wp h2.wn h2.wc] 31)).cell? ⟨w3.heap.size, 2, none⟩ = some (.slice h.bp h.bn h.bc) := hme 2
      have b3 : (w4.alloc (.cells #[.int .i64 m2.room, .int .i64 m2.count, .slice h2.bp h2.bn h2.bc, .slice h2.sp h2.sn h2.sc, .slice h2.fp h2.fn h2.fc, .slice h2.wp h2.wn h2.wc] 31)).cell? ⟨w3.heap.size, 3, none⟩ = some (.slice h.sp h.sn h.sc) := hme 3
      have b4 : (w4.alloc (.cells #[.int .i64 m2.room, .int .i64 m2.count, .slice h2.bp h2.bn h2.bc, .slice h2.sp h2.sn h2.sc, .slice h2.fp h2.fn h2.fc, .slice h2.wp h2.wn h2.wc] 31)).cell? ⟨w3.heap.size, 4, none⟩ = some (.slice h.fp h.fn h.fc) := hme 4
      have b5 : (w4.alloc (.cells #[.int .i64 m2.room, .int .i64 m2.count, .slice h2.bp h2.bn h2.bc, .slice h2.sp h2.sn h2.sc, .slice h2.fp h2.fn h2.fc, .slice h2.wp h2.wn h2.wc] 31)).cell? ⟨w3.heap.size, 5, none⟩ = some (.slice h.wp h.wn h.wc) := hme 5
      have e0 : (w4.alloc (.cells #[.int .i64 m2.room, .int .i64 m2.count, .slice h2.bp h2.bn h2.bc, .slice h2.sp h2.sn h2.sc, .slice h2.fp h2.fn h2.fc, .slice h2.wp h2.wn h2.wc] 31)).cell? ⟨wr.heap.size, 0, none⟩ = some (.int .u8 (x.1.kind : Int)) := hae 0
      have e1 : (w4.alloc (.cells #[.int .i64 m2.room, .int .i64 m2.count, .slice h2.bp h2.bn h2.bc, .slice h2.sp h2.sn h2.sc, .slice h2.fp h2.fn h2.fc, .slice h2.wp h2.wn h2.wc] 31)).cell? ⟨wr.heap.size, 1, none⟩ = some (.string (mkS x.1.path)) := hae 1
      have e2 : (w4.alloc (.cells #[.int .i64 m2.room, .int .i64 m2.count, .slice h2.bp h2.bn h2.bc, .slice h2.sp h2.sn h2.sc, .slice h2.fp h2.fn h2.fc, .slice h2.wp h2.wn h2.wc] 31)).cell? ⟨wr.heap.size, 2, none⟩ = some (.string (mkS x.1.to_)) := hae 2
      have e3 : (w4.alloc (.cells #[.int .i64 m2.room, .int .i64 m2.count, .slice h2.bp h2.bn h2.bc, .slice h2.sp h2.sn h2.sc, .slice h2.fp h2.fn h2.fc, .slice h2.wp h2.wn h2.wc] 31)).cell? ⟨wr.heap.size, 3, none⟩ = some (.slice x.2.bq x.1.b.length x.2.bc) := hae 3
      have e4 : (w4.alloc (.cells #[.int .i64 m2.room, .int .i64 m2.count, .slice h2.bp h2.bn h2.bc, .slice h2.sp h2.sn h2.sc, .slice h2.fp h2.fn h2.fc, .slice h2.wp h2.wn h2.wc] 31)).cell? ⟨wr.heap.size, 4, none⟩ = some (.int .i64 x.1.n) := hae 4
      have e5 : (w4.alloc (.cells #[.int .i64 m2.room, .int .i64 m2.count, .slice h2.bp h2.bn h2.bc, .slice h2.sp h2.sn h2.sc, .slice h2.fp h2.fn h2.fc, .slice h2.wp h2.wn h2.wc] 31)).cell? ⟨wr.heap.size, 5, none⟩ = some (.slice x.2.kp x.1.ks.length x.2.kc) := hae 5
      clear hd2 hr2 hk2 hg2 hbb hnc hzn hae hme
      try clear a0 a1 a2 a3 a4 a5
      clear d0 d1 d2 d3 d4 d5
      go_wp2_with fail
      refine HDP.out.mono ?_
      rintro e w5 ⟨h3, S3, rfl, hd3, hr3, hk3, hg3⟩
      unfold aggD
      have hb5 := (Below.refl w5.heap.size w5).alloc (Nat.le_refl _) (boxD m2 h3)
      have hni : ∀ k, w4.heap.size ≤ k → ¬ Sy k := fun k hk q => by have h1 := HI.out.dy.low k q; have h2 := HBW.out.size; have h3 := HK2.out.size; omega
      have hn5 := fun j => ((hb5.cell (p := ⟨w4.heap.size, j, none⟩) (Nat.lt_of_lt_of_le HZN.out hk3.size)).trans ((World.cell?_of_block (w := w4.alloc (boxD m2 h2)) (w' := w5) (a := ⟨w4.heap.size, j, none⟩) (hk3.block _ HZN.out (hni _ (Nat.le_refl _)))).trans (HNC.out j)) : (w5.alloc (boxD m2 h3)).cell? ⟨w4.heap.size, j, none⟩ = (lisD m2 h2)[j]?)
      have hI5 := ((HI4.out.swap.callx hd3 hk3 hg3 (Nat.le_trans HNA.out (Nat.le_trans HK2.out.size (Nat.le_of_lt HZN.out)))).swap).next hb5
      have hc5 := hI5.cell
      have hf5 := hI5.free
      have hpa := HIA.out.act HNA.out HD2.out HR2.out HK2.out HG2.out HBB.out hd3 hk3 hg3 hb5 (.int .i64 m2.room) (.int .i64 m2.count) (.slice h2.bp h2.bn h2.bc) (.slice h2.sp h2.sn h2.sc) (.slice h2.fp h2.fn h2.fc) (.slice h2.wp h2.wn h2.wc) rfl
      unfold boxD at hn5 hc5 hf5 hpa
      have n0 : (w5.alloc (.cells #[.int .i64 m2.room, .int .i64 m2.count, .slice h3.bp h3.bn h3.bc, .slice h3.sp h3.sn h3.sc, .slice h3.fp h3.fn h3.fc, .slice h3.wp h3.wn h3.wc] 31)).cell? ⟨w4.heap.size, 0, none⟩ = some (.int .i64 m2.room) := hn5 0
      have n1 : (w5.alloc (.cells #[.int .i64 m2.room, .int .i64 m2.count, .slice h3.bp h3.bn h3.bc, .slice h3.sp h3.sn h3.sc, .slice h3.fp h3.fn h3.fc, .slice h3.wp h3.wn h3.wc] 31)).cell? ⟨w4.heap.size, 1, none⟩ = some (.int .i64 m2.count) := hn5 1
      have n2 : (w5.alloc (.cells #[.int .i64 m2.room, .int .i64 m2.count, .slice h3.bp h3.bn h3.bc, .slice h3.sp h3.sn h3.sc, .slice h3.fp h3.fn h3.fc, .slice h3.wp h3.wn h3.wc] 31)).cell? ⟨w4.heap.size, 2, none⟩ = some (.slice h2.bp h2.bn h2.bc) := hn5 2
      have n3 : (w5.alloc (.cells #[.int .i64 m2.room, .int .i64 m2.count, .slice h3.bp h3.bn h3.bc, .slice h3.sp h3.sn h3.sc, .slice h3.fp h3.fn h3.fc, .slice h3.wp h3.wn h3.wc] 31)).cell? ⟨w4.heap.size, 3, none⟩ = some (.slice h2.sp h2.sn h2.sc) := hn5 3
      have n4 : (w5.alloc (.cells #[.int .i64 m2.room, .int .i64 m2.count, .slice h3.bp h3.bn h3.bc, .slice h3.sp h3.sn h3.sc, .slice h3.fp h3.fn h3.fc, .slice h3.wp h3.wn h3.wc] 31)).cell? ⟨w4.heap.size, 4, none⟩ = some (.slice h2.fp h2.fn h2.fc) := hn5 4
      have n5 : (w5.alloc (.cells #[.int .i64 m2.room, .int .i64 m2.count, .slice h3.bp h3.bn h3.bc, .slice h3.sp h3.sn h3.sc, .slice h3.fp h3.fn h3.fc, .slice h3.wp h3.wn h3.wc] 31)).cell? ⟨w4.heap.size, 5, none⟩ = some (.slice h2.wp h2.wn h2.wc) := hn5 5
      have c0 : (w5.alloc (.cells #[.int .i64 m2.room, .int .i64 m2.count, .slice h3.bp h3.bn h3.bc, .slice h3.sp h3.sn h3.sc, .slice h3.fp h3.fn h3.fc, .slice h3.wp h3.wn h3.wc] 31)).cell? ⟨w3.heap.size, 0, none⟩ = some (.int .i64 m.room) := hc5 0
      have c1 : (w5.alloc (.cells #[.int .i64 m2.room, .int .i64 m2.count, .slice h3.bp h3.bn h3.bc, .slice h3.sp h3.sn h3.sc, .slice h3.fp h3.fn h3.fc, .slice h3.wp h3.wn h3.wc] 31)).cell? ⟨w3.heap.size, 1, none⟩ = some (.int .i64 m.count) := hc5 1
      have c2 : (w5.alloc (.cells #[.int .i64 m2.room, .int .i64 m2.count, .slice h3.bp h3.bn h3.bc, .slice h3.sp h3.sn h3.sc, .slice h3.fp h3.fn h3.fc, .slice h3.wp h3.wn h3.wc] 31)).cell? ⟨w3.heap.size, 2, none⟩ = some (.slice h.bp h.bn h.bc) := hc5 2
      have c3 : (w5.alloc (.cells #[.int .i64 m2.room, .int .i64 m2.count, .slice h3.bp h3.bn h3.bc, .slice h3.sp h3.sn h3.sc, .slice h3.fp h3.fn h3.fc, .slice h3.wp h3.wn h3.wc] 31)).cell? ⟨w3.heap.size, 3, none⟩ = some (.slice h.sp h.sn h.sc) := hc5 3
      have c4 : (w5.alloc (.cells #[.int .i64 m2.room, .int .i64 m2.count, .slice h3.bp h3.bn h3.bc, .slice h3.sp h3.sn h3.sc, .slice h3.fp h3.fn h3.fc, .slice h3.wp h3.wn h3.wc] 31)).cell? ⟨w3.heap.size, 4, none⟩ = some (.slice h.fp h.fn h.fc) := hc5 4
      have c5 : (w5.alloc (.cells #[.int .i64 m2.room, .int .i64 m2.count, .slice h3.bp h3.bn h3.bc, .slice h3.sp h3.sn h3.sc, .slice h3.fp h3.fn h3.fc, .slice h3.wp h3.wn h3.wc] 31)).cell? ⟨w3.heap.size, 5, none⟩ = some (.slice h.wp h.wn h.wc) := hc5 5
      have f0 := hf5 0
      have f1 := hf5 1
      have f2 := hf5 2
      have f3 := hf5 3
      have f4 := hf5 4
      have f5 := hf5 5
      obtain ⟨hPI, hPK, hPX, hPY⟩ := hpa
      have HPI := Lib.hid hPI
      have HPK := Lib.hid (Kq8.comp (Kq8.of_below HBW.out) hPK)
      have HPX := Lib.hid (hPX.mono HBW.out.size)
      have HPY := Lib.hid (hPY.mono HBW.out.size)
      have HOK2 := Lib.hid (show DkOk (k + 1) m2 by rw [← HM2.out]; exact step_ok x.1 HOK.out (by have := HXL.out.1; omega))
      have HRM2 := Lib.hid (show m2.room = 5000 by rw [← HM2.out]; exact (step_room m x.1).trans HRM.out)
      have HPB := Lib.hid (HB.out.trans (HPK.out.below (fun k hk => In3.from HI.out.fx HI.out.fy HNB.out k hk) HB.out.size))
      clear hd3 hr3 hk3 hg3 hb5 hni hn5 hI5 hc5 hf5 hPI hPK hPX hPY
      clear b0 b1 b2 b3 b4 b5 e0 e1 e2 e3 e4 e5
      go_wp2
      go_roundw
      case rel => exact ⟨k + 1, by omega, by go_num, h2, m2, S2, S3, HPI.out, HOK2.out, HRM2.out, HPB.out⟩
      case measure => simp [intOf]; omega
    · have z1 : ¬ (k : Int) < (na : Int) := by omega
      have z2 : decide ((k : Int) < (na : Int)) = false := decide_eq_false z1
      clear HST
      have HSX := Lib.hid (dsync_any HI.out.dx)
      go_wp2_with fail
      refine HSX.out.mono ?_
      rintro e w4 ⟨rfl, hn4⟩
      have hI4 := HI.out.callx hn4.1 hn4.2 (grew_SN _ _ _) HB.out.size
      have q4 := hn4.2.size
      have HB4 := Lib.hid (HB.out.trans (hn4.2.below HI.out.fx HB.out.size))
      obtain ⟨S4, hS4⟩ : ∃ S4, SN Sx wr.heap.size w4.heap.size = S4 := ⟨_, rfl⟩
      rw [hS4] at hI4
      have HI4 := Lib.hid hI4
      have HSY := Lib.hid (dsync_any HI4.out.dy)
      clear hn4 hI4 hS4 z1 z2
      go_wp2_with fail
      refine HSY.out.mono ?_
      rintro e w5 ⟨rfl, hn5⟩
      have hI5 := (HI4.out.swap.callx hn5.1 hn5.2 (grew_SN _ _ _) HB4.out.size).swap
      have HB5 := Lib.hid (HB4.out.trans (hn5.2.below HI4.out.fy HB4.out.size))
      obtain ⟨S5, hS5⟩ : ∃ S5, SN Sy w4.heap.size w5.heap.size = S5 := ⟨_, rfl⟩
      rw [hS5] at hI5
      have HI5 := Lib.hid hI5
      have HRS := Lib.hid (refSync_any (fun k => ¬ S4 k ∧ ¬ S5 k ∧ ¬ k = w3.heap.size) m h (by have := HI.out.ref.sn; have := HOK.out.seen; omega) w5 (fun k hk => ⟨fun q => by have := HI5.out.dx.low k q; omega, fun q => by have := HI5.out.dy.low k q; omega, fun q => by have := HI5.out.lt; omega⟩) HI5.out.ref)
      have hc5 := HI5.out.cell
      have d0 : w5.cell? ⟨w3.heap.size, 0, none⟩ = some (.int .i64 m.room) := hc5 0
      have d1 : w5.cell? ⟨w3.heap.size, 1, none⟩ = some (.int .i64 m.count) := hc5 1
      have d2 : w5.cell? ⟨w3.heap.size, 2, none⟩ = some (.slice h.bp h.bn h.bc) := hc5 2
      have d3 : w5.cell? ⟨w3.heap.size, 3, none⟩ = some (.slice h.sp h.sn h.sc) := hc5 3
      have d4 : w5.cell? ⟨w3.heap.size, 4, none⟩ = some (.slice h.fp h.fn h.fc) := hc5 4
      have d5 : w5.cell? ⟨w3.heap.size, 5, none⟩ = some (.slice h.wp h.wn h.wc) := hc5 5
      have HOK0 := Lib.hid (show DkOk 50 (syncL m) from HOK.out.sync.mono (by omega))
      have HSE0 := Lib.hid (show (syncL m).seen.length ≤ 64 from HSE.out)
      have HRM0 := Lib.hid (show (syncL m).room = 5000 from HRM.out)
      have HLT0 := Lib.hid (show Later (syncL m) (syncL m) from ⟨AllK.sync m, rfl, rfl, ⟨[], by simp⟩⟩)
      have HSS0 := Lib.hid (show (syncL m).safe = (syncL m).seen from rfl)
      have HSW0 := Lib.hid (show (syncL m).waits = [] from rfl)
      obtain ⟨m0, hm0⟩ : ∃ m0, syncL m = m0 := ⟨_, rfl⟩
      rw [hm0] at HRS HI5 HOK0 HSE0 HRM0 HLT0 HSS0 HSW0
      unfold aggD at HRS
      clear hn5 hI5 hS5 hm0 hc5 q4
      go_wp2_with fail
      refine HRS.out.mono ?_
      rintro e w6 ⟨h6, rfl, hr6, hB6⟩
      have HI6 := Lib.hid (HI5.out.next hB6)
      have hq6 := HI6.out.put hr6 (.int .i64 m0.room) (.int .i64 m0.count) (.slice h6.bp h6.bn h6.bc) (.slice h6.sp h6.sn h6.sc) (.slice h6.fp h6.fn h6.fc) (.slice h6.wp h6.wn h6.wc) rfl
      have HB6 := Lib.hid (HB5.out.trans (hB6.mono HB5.out.size))
      have hbq : Below w.heap.size w6 (put6 w6 w3.heap.size (.int .i64 m0.room) (.int .i64 m0.count) (.slice h6.bp h6.bn h6.bc) (.slice h6.sp h6.sn h6.sc) (.slice h6.fp h6.fn h6.fc) (.slice h6.wp h6.wn h6.wc)) := put6_below _ _ _ _ _ _ (Below.refl _ _) HNB.out
      have hzq := put6_sz w6 w3.heap.size (.int .i64 m0.room) (.int .i64 m0.count) (.slice h6.bp h6.bn h6.bc) (.slice h6.sp h6.sn h6.sc) (.slice h6.fp h6.fn h6.fc) (.slice h6.wp h6.wn h6.wc)
      have hcq := hq6.cell
      have hc6 := HI6.out.cell
      have hf6 := HI6.out.free
      have c0 : w6.cell? ⟨w3.heap.size, 0, none⟩ = some (.int .i64 m.room) := hc6 0
      have c1 : w6.cell? ⟨w3.heap.size, 1, none⟩ = some (.int .i64 m.count) := hc6 1
      have c2 : w6.cell? ⟨w3.heap.size, 2, none⟩ = some (.slice h.bp h.bn h.bc) := hc6 2
      have c3 : w6.cell? ⟨w3.heap.size, 3, none⟩ = some (.slice h.sp h.sn h.sc) := hc6 3
      have c4 : w6.cell? ⟨w3.heap.size, 4, none⟩ = some (.slice h.fp h.fn h.fc) := hc6 4
      have c5 : w6.cell? ⟨w3.heap.size, 5, none⟩ = some (.slice h.wp h.wn h.wc) := hc6 5
      have f0 := hf6 0
      have f1 := hf6 1
      have f2 := hf6 2
      have f3 := hf6 3
      have f4 := hf6 4
      have f5 := hf6 5
      have hat := (Below.refl (put6 w6 w3.heap.size (.int .i64 m0.room) (.int .i64 m0.count) (.slice h6.bp h6.bn h6.bc) (.slice h6.sp h6.sn h6.sc) (.slice h6.fp h6.fn h6.fc) (.slice h6.wp h6.wn h6.wc)).heap.size (put6 w6 w3.heap.size (.int .i64 m0.room) (.int .i64 m0.count) (.slice h6.bp h6.bn h6.bc) (.slice h6.sp h6.sn h6.sc) (.slice h6.fp h6.fn h6.fc) (.slice h6.wp h6.wn h6.wc))).alloc (Nat.le_refl _) (boxD m0 h6)
      have hct := boxD_cell (put6 w6 w3.heap.size (.int .i64 m0.room) (.int .i64 m0.count) (.slice h6.bp h6.bn h6.bc) (.slice h6.sp h6.sn h6.sc) (.slice h6.fp h6.fn h6.fc) (.slice h6.wp h6.wn h6.wc)) m0 h6
      have hft := boxD_free (put6 w6 w3.heap.size (.int .i64 m0.room) (.int .i64 m0.count) (.slice h6.bp h6.bn h6.bc) (.slice h6.sp h6.sn h6.sc) (.slice h6.fp h6.fn h6.fc) (.slice h6.wp h6.wn h6.wc)) m0 h6
      have hlT : w6.heap.size < ((put6 w6 w3.heap.size (.int .i64 m0.room) (.int .i64 m0.count) (.slice h6.bp h6.bn h6.bc) (.slice h6.sp h6.sn h6.sc) (.slice h6.fp h6.fn h6.fc) (.slice h6.wp h6.wn h6.wc)).alloc (boxD m0 h6)).heap.size := by rw [World.size_alloc, hzq]; exact Nat.lt_succ_self _
      have hqt : Pl2 w.heap.size ((put6 w6 w3.heap.size (.int .i64 m0.room) (.int .i64 m0.count) (.slice h6.bp h6.bn h6.bc) (.slice h6.sp h6.sn h6.sc) (.slice h6.fp h6.fn h6.fc) (.slice h6.wp h6.wn h6.wc)).alloc (boxD m0 h6)) S4 S5 (fun k => k = w3.heap.size ∨ k = w6.heap.size) bx by_ w3.heap.size m0 m0 m0 h6 := by
        have q := hq6.next hat
        exact ⟨q.dx, q.dy, q.two, (hq6.ref.wider (G' := fun k => ¬ S4 k ∧ ¬ S5 k ∧ ¬ (k = w3.heap.size ∨ k = w6.heap.size)) fun c hc hl => ⟨hc.1, hc.2.1, fun e => by
          rw [hzq] at hl
          rcases e with e | e
          · exact hc.2.2 e
          · omega⟩).of_below hat, .inl rfl, fun k hk => by
          rcases hk with e | e
          · exact q.elow k e
          · rw [e]; exact hlT, q.cell, q.free, q.lt, q.nx, q.ny, q.fx, q.fy⟩
      have hbt : Below w.heap.size w ((put6 w6 w3.heap.size (.int .i64 m0.room) (.int .i64 m0.count) (.slice h6.bp h6.bn h6.bc) (.slice h6.sp h6.sn h6.sc) (.slice h6.fp h6.fn h6.fc) (.slice h6.wp h6.wn h6.wc)).alloc (boxD m0 h6)) := (HB6.out.trans hbq).trans (hat.mono (by rw [hzq]; exact HB6.out.size))
      rw [hzq] at hct hft
      unfold put6 at hcq hct hft hqt hlT hbt hat
      unfold boxD at hct hft hqt hlT hbt
      have p0 : ((((((w6.setCell ⟨w3.heap.size, 0, none⟩ (.int .i64 m0.room)).setCell ⟨w3.heap.size, 1, none⟩ (.int .i64 m0.count)).setCell ⟨w3.heap.size, 2, none⟩ (.slice h6.bp h6.bn h6.bc)).setCell ⟨w3.heap.size, 3, none⟩ (.slice h6.sp h6.sn h6.sc)).setCell ⟨w3.heap.size, 4, none⟩ (.slice h6.fp h6.fn h6.fc)).setCell ⟨w3.heap.size, 5, none⟩ (.slice h6.wp h6.wn h6.wc)).cell? ⟨w3.heap.size, 0, none⟩ = some (.int .i64 m0.room) := hcq 0
      have p1 : ((((((w6.setCell ⟨w3.heap.size, 0, none⟩ (.int .i64 m0.room)).setCell ⟨w3.heap.size, 1, none⟩ (.int .i64 m0.count)).setCell ⟨w3.heap.size, 2, none⟩ (.slice h6.bp h6.bn h6.bc)).setCell ⟨w3.heap.size, 3, none⟩ (.slice h6.sp h6.sn h6.sc)).setCell ⟨w3.heap.size, 4, none⟩ (.slice h6.fp h6.fn h6.fc)).setCell ⟨w3.heap.size, 5, none⟩ (.slice h6.wp h6.wn h6.wc)).cell? ⟨w3.heap.size, 1, none⟩ = some (.int .i64 m0.count) := hcq 1
      have p2 : ((((((w6.setCell ⟨w3.heap.size, 0, none⟩ (.int .i64 m0.room)).setCell ⟨w3.heap.size, 1, none⟩ (.int .i64 m0.count)).setCell ⟨w3.heap.size, 2, none⟩ (.slice h6.bp h6.bn h6.bc)).setCell ⟨w3.heap.size, 3, none⟩ (.slice h6.sp h6.sn h6.sc)).setCell ⟨w3.heap.size, 4, none⟩ (.slice h6.fp h6.fn h6.fc)).setCell ⟨w3.heap.size, 5, none⟩ (.slice h6.wp h6.wn h6.wc)).cell? ⟨w3.heap.size, 2, none⟩ = some (.slice h6.bp h6.bn h6.bc) := hcq 2
      have p3 : ((((((w6.setCell ⟨w3.heap.size, 0, none⟩ (.int .i64 m0.room)).setCell ⟨w3.heap.size, 1, none⟩ (.int .i64 m0.count)).setCell ⟨w3.heap.size, 2, none⟩ (.slice h6.bp h6.bn h6.bc)).setCell ⟨w3.heap.size, 3, none⟩ (.slice h6.sp h6.sn h6.sc)).setCell ⟨w3.heap.size, 4, none⟩ (.slice h6.fp h6.fn h6.fc)).setCell ⟨w3.heap.size, 5, none⟩ (.slice h6.wp h6.wn h6.wc)).cell? ⟨w3.heap.size, 3, none⟩ = some (.slice h6.sp h6.sn h6.sc) := hcq 3
      have p4 : ((((((w6.setCell ⟨w3.heap.size, 0, none⟩ (.int .i64 m0.room)).setCell ⟨w3.heap.size, 1, none⟩ (.int .i64 m0.count)).setCell ⟨w3.heap.size, 2, none⟩ (.slice h6.bp h6.bn h6.bc)).setCell ⟨w3.heap.size, 3, none⟩ (.slice h6.sp h6.sn h6.sc)).setCell ⟨w3.heap.size, 4, none⟩ (.slice h6.fp h6.fn h6.fc)).setCell ⟨w3.heap.size, 5, none⟩ (.slice h6.wp h6.wn h6.wc)).cell? ⟨w3.heap.size, 4, none⟩ = some (.slice h6.fp h6.fn h6.fc) := hcq 4
      have p5 : ((((((w6.setCell ⟨w3.heap.size, 0, none⟩ (.int .i64 m0.room)).setCell ⟨w3.heap.size, 1, none⟩ (.int .i64 m0.count)).setCell ⟨w3.heap.size, 2, none⟩ (.slice h6.bp h6.bn h6.bc)).setCell ⟨w3.heap.size, 3, none⟩ (.slice h6.sp h6.sn h6.sc)).setCell ⟨w3.heap.size, 4, none⟩ (.slice h6.fp h6.fn h6.fc)).setCell ⟨w3.heap.size, 5, none⟩ (.slice h6.wp h6.wn h6.wc)).cell? ⟨w3.heap.size, 5, none⟩ = some (.slice h6.wp h6.wn h6.wc) := hcq 5
      obtain ⟨WT, hWT⟩ : ∃ WT, ((((((w6.setCell ⟨w3.heap.size, 0, none⟩ (.int .i64 m0.room)).setCell ⟨w3.heap.size, 1, none⟩ (.int .i64 m0.count)).setCell ⟨w3.heap.size, 2, none⟩ (.slice h6.bp h6.bn h6.bc)).setCell ⟨w3.heap.size, 3, none⟩ (.slice h6.sp h6.sn h6.sc)).setCell ⟨w3.heap.size, 4, none⟩ (.slice h6.fp h6.fn h6.fc)).setCell ⟨w3.heap.size, 5, none⟩ (.slice h6.wp h6.wn h6.wc)).alloc (.cells #[.int .i64 m0.room, .int .i64 m0.count, .slice h6.bp h6.bn h6.bc, .slice h6.sp h6.sn h6.sc, .slice h6.fp h6.fn h6.fc, .slice h6.wp h6.wn h6.wc] 31) = WT := ⟨_, rfl⟩
      rw [hWT] at hct hft hqt hlT hbt
      have HET := Lib.hid hWT
      have HCT := Lib.hid hct
      have HFT := Lib.hid hft
      have HQT := Lib.hid hqt
      have HLTT := Lib.hid hlT
      have HBT := Lib.hid hbt
      clear hr6 hB6 hq6 hbq hzq hcq hc6 hf6 hat hct hft hlT hqt hbt hWT d0 d1 d2 d3 d4 d5
      go_wp2
      rw [HET.out]
      have HTL := Lib.hid (show w.heap.size ≤ w6.heap.size from HB6.out.size)
      have HTN := Lib.hid (show ¬ S4 w6.heap.size ∧ ¬ S5 w6.heap.size ∧ w6.heap.size ≠ w3.heap.size from ⟨fun q => Nat.lt_irrefl _ (HI6.out.dx.low _ q), fun q => Nat.lt_irrefl _ (HI6.out.dy.low _ q), fun q => by have := HI6.out.lt; omega⟩)
      clear HI HOK HRM HSE HB HSX HB4 HI4 HSY HB5 HI5 HRS HI6 HB6 HET
      try clear c0 c1 c2 c3 c4 c5 f0 f1 f2 f3 f4 f5 p0 p1 p2 p3 p4 p5
      go_loopw [76] (fun i wr => ∃ k : Nat, k ≤ n ∧ i = .int .i64 k ∧ LpB w.heap.size bx by_ w3.heap.size w6.heap.size w WT S4 S5 m0 wr k) (fun i _ => n - (intOf i).toNat)
      case atStart => exact ⟨0, Nat.zero_le _, rfl, h6, m0, S4, S5, HQT.out, HOK0.out, HRM0.out, HSE0.out, HLT0.out, Kq8.of_below (Below.refl _ _), grew_refl _ _, grew_refl _ _, HBT.out⟩
      case round =>
        obtain ⟨k, hk, rfl, h, m, Sx, Sy, hI, hok, hrm, hse, hlat, hkq, hgx, hgy, hB⟩ := hrel
        have HI := Lib.hid hI
        have HOK := Lib.hid hok
        have HRM := Lib.hid hrm
        have HSE := Lib.hid hse
        have HLAT := Lib.hid hlat
        have HKQ := Lib.hid hkq
        have HGX := Lib.hid hgx
        have HGY := Lib.hid hgy
        have HB := Lib.hid hB
        clear hI hok hrm hse hlat hkq hgx hgy hB
        by_cases hlt : k < n
        · skip
          have hkl : k < lb.length := by rw [HLb.out.len]; exact hlt
          obtain ⟨x, hx⟩ : ∃ x, lb[k] = x := ⟨_, rfl⟩
          have hxm : x ∈ lb := by rw [← hx]; exact List.getElem_mem hkl
          have HXK := Lib.hid (HKDb.out x hxm)
          have HXL := Lib.hid (HLXb.out x hxm)
          have hLr := HLb.out.of_below HB.out
          obtain ⟨c0, o0, hpe, hc0, hx0⟩ := hLr.cell (i := k) (j := 0) hkl (u := .int .u8 (x.1.kind : Int)) (by rw [hx]; rfl)
          have hF := fun j u (hu : (encA x)[j]? = some u) => (by
            obtain ⟨c1, o1, e1, _, h1⟩ := hLr.cell (i := k) (j := j) hkl (by rw [hx]; exact hu)
            rw [hpe] at e1
            injection e1 with e1
            injection e1 with e1 e2
            subst e1 e2
            rw [← Nat.add_assoc] at h1
            exact h1 : wr.cell? ⟨c0, o0 + k * 6 + j, none⟩ = some u)
          have a0 : wr.cell? ⟨c0, o0 + k * 6, none⟩ = some (.int .u8 (x.1.kind : Int)) := hF 0 _ rfl
          have a1 := hF 1 _ rfl
          have a2 := hF 2 _ rfl
          have a3 := hF 3 _ rfl
          have a4 := hF 4 _ rfl
          have a5 := hF 5 _ rfl
          have hba := (Below.refl wr.heap.size wr).alloc (Nat.le_refl _) (.cells #[.int .u8 (x.1.kind : Int), .string (mkS x.1.path), .string (mkS x.1.to_), .slice x.2.bq x.1.b.length x.2.bc, .int .i64 x.1.n, .slice x.2.kp x.1.ks.length x.2.kc] 35)
          have hac := boxA2_cell wr x
          have hmd := (HI.out.next hba).cell
          have d0 : (wr.alloc (.cells #[.int .u8 (x.1.kind : Int), .string (mkS x.1.path), .string (mkS x.1.to_), .slice x.2.bq x.1.b.length x.2.bc, .int .i64 x.1.n, .slice x.2.kp x.1.ks.length x.2.kc] 35)).cell? ⟨w3.heap.size, 0, none⟩ = some (.int .i64 m.room) := hmd 0
          have d1 : (wr.alloc (.cells #[.int .u8 (x.1.kind : Int), .string (mkS x.1.path), .string (mkS x.1.to_), .slice x.2.bq x.1.b.length x.2.bc, .int .i64 x.1.n, .slice x.2.kp x.1.ks.length x.2.kc] 35)).cell? ⟨w3.heap.size, 1, none⟩ = some (.int .i64 m.count) := hmd 1
          have d2 : (wr.alloc (.cells #[.int .u8 (x.1.kind : Int), .string (mkS x.1.path), .string (mkS x.1.to_), .slice x.2.bq x.1.b.length x.2.bc, .int .i64 x.1.n, .slice x.2.kp x.1.ks.length x.2.kc] 35)).cell? ⟨w3.heap.size, 2, none⟩ = some (.slice h.bp h.bn h.bc) := hmd 2
          have d3 : (wr.alloc (.cells #[.int .u8 (x.1.kind : Int), .string (mkS x.1.path), .string (mkS x.1.to_), .slice x.2.bq x.1.b.length x.2.bc, .int .i64 x.1.n, .slice x.2.kp x.1.ks.length x.2.kc] 35)).cell? ⟨w3.heap.size, 3, none⟩ = some (.slice h.sp h.sn h.sc) := hmd 3
          have d4 : (wr.alloc (.cells #[.int .u8 (x.1.kind : Int), .string (mkS x.1.path), .string (mkS x.1.to_), .slice x.2.bq x.1.b.length x.2.bc, .int .i64 x.1.n, .slice x.2.kp x.1.ks.length x.2.kc] 35)).cell? ⟨w3.heap.size, 4, none⟩ = some (.slice h.fp h.fn h.fc) := hmd 4
          have d5 : (wr.alloc (.cells #[.int .u8 (x.1.kind : Int), .string (mkS x.1.path), .string (mkS x.1.to_), .slice x.2.bq x.1.b.length x.2.bc, .int .i64 x.1.n, .slice x.2.kp x.1.ks.length x.2.kc] 35)).cell? ⟨w3.heap.size, 5, none⟩ = some (.slice h.wp h.wn h.wc) := hmd 5
          clear hmd
          have hza : wr.heap.size < (wr.alloc (.cells #[.int .u8 (x.1.kind : Int), .string (mkS x.1.path), .string (mkS x.1.to_), .slice x.2.bq x.1.b.length x.2.bc, .int .i64 x.1.n, .slice x.2.kp x.1.ks.length x.2.kc] 35)).heap.size := by rw [World.size_alloc]; exact Nat.lt_succ_self _
          obtain ⟨WA, hWA⟩ : ∃ WA, wr.alloc (.cells #[.int .u8 (x.1.kind : Int), .string (mkS x.1.path), .string (mkS x.1.to_), .slice x.2.bq x.1.b.length x.2.bc, .int .i64 x.1.n, .slice x.2.kp x.1.ks.length x.2.kc] 35) = WA := ⟨_, rfl⟩
          have HEA := Lib.hid hWA
          rw [hWA] at hba hac hza
          have HIA := Lib.hid (HI.out.next hba)
          have HBA := Lib.hid (HB.out.trans (hba.mono HB.out.size))
          have HBW := Lib.hid hba
          have HZA := Lib.hid hza
          have HAC := Lib.hid hac
          have HLB := Lib.hid (fun (S : Nat → Prop) (hS : ∀ c, S c → w.heap.size ≤ c) (u : World) (hu : Below w.heap.size w u) => ((HLb.out.byt x hxm).wider (G' := fun k => ¬ S k) fun c _ hc hs => by have := hS c hs; omega).keep (w' := u) (fun c _ hc => hu.block c hc) hu.size)
          have HLK := Lib.hid (fun (S : Nat → Prop) (hS : ∀ c, S c → w.heap.size ≤ c) (u : World) (hu : Below w.heap.size w u) => ((HLb.out.kep x hxm).wider (G' := fun k => ¬ S k) fun c _ hc hs => by have := hS c hs; omega).keep (w' := u) (fun c _ hc => hu.block c hc) hu.size)
          have HDO := Lib.hid (do8_any (w := WA) (S := Sx) (G := fun k => ¬ Sx k ∧ ¬ Sy k ∧ ¬ (k = w3.heap.size ∨ k = w6.heap.size)) (b := bx) (m := m) (h := h) (x := x) ⟨HIA.out.dx, HOK.out.mono (by omega), HSE.out, by rw [HRM.out]; decide, by rw [HRM.out]; decide, fun k hk => hk.1, HIA.out.ref, HXK.out, HXL.out.1, HXL.out.2.1, HXL.out.2.2.1, HXL.out.2.2.2, HLB.out Sx HIA.out.fx WA HBA.out, HLK.out Sx HIA.out.fx WA HBA.out⟩)
          have z1 : (k : Int) < (n : Int) := by omega
          have z2 : decide ((k : Int) < (n : Int)) = true := decide_eq_true z1
          have hw64 := i64s k (by omega)
          obtain ⟨m2, hm2⟩ : ∃ m2, stepL m x.1 = m2 := ⟨_, rfl⟩
          rw [hm2] at HDO
          have HM2 := Lib.hid hm2
          rw [hpe]
          unfold aggD actV at HDO
          clear hLr hpe hc0 hx0 hF hx hxm hba hWA hac hza hm2
          obtain ⟨c7, hc7⟩ : ∃ c7, x.1.kind % 7 = c7 := ⟨_, rfl⟩
          have q7 : ((x.1.kind : Int).tmod 7) = (c7 : Int) := by rw [Int.tmod_eq_emod_of_nonneg (by omega)]; omega
          have HC7 := Lib.hid hc7
          clear hc7
          by_cases hc3 : c7 < 3
          · have t1 : ¬ (3 : Int) ≤ (c7 : Int) := by omega
            have t2 : decide ((3 : Int) ≤ (c7 : Int)) = false := decide_eq_false t1
            have t3 : ¬ 3 ≤ c7 := by omega
            go_wp2_with fail
            rw [HEA.out]
            refine HDO.out.mono ?_
            rintro e w4 ⟨h2, S2, rfl, hd2, hr2, hk2, hg2⟩
            unfold aggD
            have HNA := Lib.hid (show w.heap.size ≤ WA.heap.size from HBA.out.size)
            have hbb := (Below.refl w4.heap.size w4).alloc (Nat.le_refl _) (boxD m2 h2)
            have HI4 := Lib.hid ((HIA.out.callx hd2 hk2 hg2 HNA.out).next hbb)
            have HB4 := Lib.hid ((HBA.out.trans (hk2.below HIA.out.fx HNA.out)).trans (hbb.mono (Nat.le_trans HNA.out hk2.size)))
            have hnc := boxD_cell w4 m2 h2
            have hzn : w4.heap.size < (w4.alloc (boxD m2 h2)).heap.size := by rw [World.size_alloc]; exact Nat.lt_succ_self _
            have HD2 := Lib.hid hd2
            have HR2 := Lib.hid hr2
            have HK2 := Lib.hid hk2
            have HG2 := Lib.hid hg2
            have HBB := Lib.hid hbb
            have HNC := Lib.hid hnc
            have HZN := Lib.hid hzn
            have hae := fun j => ((HBB.out.cell (p := ⟨wr.heap.size, j, none⟩) (Nat.lt_of_lt_of_le HZA.out HK2.out.size)).trans ((World.cell?_of_block (w := WA) (w' := w4) (a := ⟨wr.heap.size, j, none⟩) (HK2.out.block _ HZA.out (fun q => Nat.lt_irrefl _ (HI.out.dx.low wr.heap.size q)))).trans (HAC.out j)) : (w4.alloc (boxD m2 h2)).cell? ⟨wr.heap.size, j, none⟩ = (encA x)[j]?)
            have hme := HI4.out.cell
            have HDP := Lib.hid (do8_any (w := w4.alloc (boxD m2 h2)) (S := Sy) (G := fun k => ¬ S2 k ∧ ¬ Sy k ∧ ¬ (k = w3.heap.size ∨ k = w6.heap.size)) (b := by_) (m := m) (h := h) (x := x) ⟨HI4.out.dy, HOK.out.mono (by omega), HSE.out, by rw [HRM.out]; decide, by rw [HRM.out]; decide, fun k hk => hk.2.1, HI4.out.ref, HXK.out, HXL.out.1, HXL.out.2.1, HXL.out.2.2.1, HXL.out.2.2.2, HLB.out Sy HI4.out.fy _ HB4.out, HLK.out Sy HI4.out.fy _ HB4.out⟩)
            rw [HM2.out] at HDP
            unfold boxD at hae hme HDP
            unfold aggD actV at HDP
            have b0 : (w4.alloc (.cells #[.int .i64 m2.room, .int .i64 m2.count, .slice h2.bp h2.bn h2.bc, .slice h2.sp h2.sn h2.sc, .slice h2.fp h2.fn h2.fc, .slice h2.wp h2.wn h2.wc] 31)).cell? ⟨w3.heap.size, 0, none⟩ = some (.int .i64 m.room) := hme 0
            have b1 : (w4.alloc (.cells #[.int .i64 m2.room, .int .i64 m2.count, .slice h2.bp h2.bn h2.bc, .slice h2.sp h2.sn h2.sc, .slice h2.fp h2.fn h2.fc, .slice h2.wp h2.wn h2.wc] 31)).cell? ⟨w3.heap.size, 1, none⟩ = some (.int .i64 m.count) := hme 1
            have b2 : (w4.alloc (.cells #[.int .i64 m2.room, .int .i64 m2.count, .slice h2.bp h2.bn h2.bc, .slice h2.sp h2.sn h2.sc, .slice h2.fp h2.fn h2.fc, .slice h2.wp h2.wn h2.wc] 31)).cell? ⟨w3.heap.size, 2, none⟩ = some (.slice h.bp h.bn h.bc) := hme 2
            have b3 : (w4.alloc (.cells #[.int .i64 m2.room, .int .i64 m2.count, .slice h2.bp h2.bn h2.bc, .slice h2.sp h2.sn h2.sc, .slice h2.fp h2.fn h2.fc, .slice h2.wp h2.wn h2.wc] 31)).cell? ⟨w3.heap.size, 3, none⟩ = some (.slice h.sp h.sn h.sc) := hme 3
            have b4 : (w4.alloc (.cells #[.int .i64 m2.room, .int .i64 m2.count, .slice h2.bp h2.bn h2.bc, .slice h2.sp h2.sn h2.sc, .slice h2.fp h2.fn h2.fc, .slice h2.wp h2.wn h2.wc] 31)).cell? ⟨w3.heap.size, 4, none⟩ = some (.slice h.fp h.fn h.fc) := hme 4
            have b5 : (w4.alloc (.cells #[.int .i64 m2.room, .int .i64 m2.count, .slice h2.bp h2.bn h2.bc, .slice h2.sp h2.sn h2.sc, .slice h2.fp h2.fn h2.fc, .slice h2.wp h2.wn h2.wc] 31)).cell? ⟨w3.heap.size, 5, none⟩ = some (.slice h.wp h.wn h.wc) := hme 5
            have e0 : (w4.alloc (.cells #[.int .i64 m2.room, .int .i64 m2.count, .slice h2.bp h2.bn h2.bc, .slice h2.sp h2.sn h2.sc, .slice h2.fp h2.fn h2.fc, .slice h2.wp h2.wn h2.wc] 31)).cell? ⟨wr.heap.size, 0, none⟩ = some (.int .u8 (x.1.kind : Int)) := hae 0
            have e1 : (w4.alloc (.cells #[.int .i64 m2.room, .int .i64 m2.count, .slice h2.bp h2.bn h2.bc, .slice h2.sp h2.sn h2.sc, .slice h2.fp h2.fn h2.fc, .slice h2.wp h2.wn h2.wc] 31)).cell? ⟨wr.heap.size, 1, none⟩ = some (.string (mkS x.1.path)) := hae 1
            have e2 : (w4.alloc (.cells #[.int .i64 m2.room, .int .i64 m2.count, .slice h2.bp h2.bn h2.bc, .slice h2.sp h2.sn h2.sc, .slice h2.fp h2.fn h2.fc, .slice h2.wp h2.wn h2.wc] 31)).cell? ⟨wr.heap.size, 2, none⟩ = some (.string (mkS x.1.to_)) := hae 2
            have e3 : (w4.alloc (.cells #[.int .i64 m2.room, .int .i64 m2.count, .slice h2.bp h2.bn h2.bc, .slice h2.sp h2.sn h2.sc, .slice h2.fp h2.fn h2.fc, .slice h2.wp h2.wn h2.wc] 31)).cell? ⟨wr.heap.size, 3, none⟩ = some (.slice x.2.bq x.1.b.length x.2.bc) := hae 3
            have e4 : (w4.alloc (.cells #[.int .i64 m2.room, .int .i64 m2.count, .slice h2.bp h2.bn h2.bc, .slice h2.sp h2.sn h2.sc, .slice h2.fp h2.fn h2.fc, .slice h2.wp h2.wn h2.wc] 31)).cell? ⟨wr.heap.size, 4, none⟩ = some (.int .i64 x.1.n) := hae 4
            have e5 : (w4.alloc (.cells #[.int .i64 m2.room, .int .i64 m2.count, .slice h2.bp h2.bn h2.bc, .slice h2.sp h2.sn h2.sc, .slice h2.fp h2.fn h2.fc, .slice h2.wp h2.wn h2.wc] 31)).cell? ⟨wr.heap.size, 5, none⟩ = some (.slice x.2.kp x.1.ks.length x.2.kc) := hae 5
            clear hd2 hr2 hk2 hg2 hbb hnc hzn hae hme
            try clear a0 a1 a2 a3 a4 a5
            clear d0 d1 d2 d3 d4 d5
            go_wp2_with fail
            refine HDP.out.mono ?_
            rintro e w5 ⟨h3, S3, rfl, hd3, hr3, hk3, hg3⟩
            unfold aggD
            have hb5 := (Below.refl w5.heap.size w5).alloc (Nat.le_refl _) (boxD m2 h3)
            have hni : ∀ k, w4.heap.size ≤ k → ¬ Sy k := fun k hk q => by have h1 := HI.out.dy.low k q; have h2 := HBW.out.size; have h3 := HK2.out.size; omega
            have hn5 := fun j => ((hb5.cell (p := ⟨w4.heap.size, j, none⟩) (Nat.lt_of_lt_of_le HZN.out hk3.size)).trans ((World.cell?_of_block (w := w4.alloc (boxD m2 h2)) (w' := w5) (a := ⟨w4.heap.size, j, none⟩) (hk3.block _ HZN.out (hni _ (Nat.le_refl _)))).trans (HNC.out j)) : (w5.alloc (boxD m2 h3)).cell? ⟨w4.heap.size, j, none⟩ = (lisD m2 h2)[j]?)
            have hI5 := ((HI4.out.swap.callx hd3 hk3 hg3 (Nat.le_trans HNA.out (Nat.le_trans HK2.out.size (Nat.le_of_lt HZN.out)))).swap).next hb5
            have hc5 := hI5.cell
            have hf5 := hI5.free
            have hpa := HIA.out.act HNA.out HD2.out HR2.out HK2.out HG2.out HBB.out hd3 hk3 hg3 hb5 (.int .i64 m2.room) (.int .i64 m2.count) (.slice h2.bp h2.bn h2.bc) (.slice h2.sp h2.sn h2.sc) (.slice h2.fp h2.fn h2.fc) (.slice h2.wp h2.wn h2.wc) rfl
            unfold boxD at hn5 hc5 hf5 hpa
            have n0 : (w5.alloc (.cells #[.int .i64 m2.room, .int .i64 m2.count, .slice h3.bp h3.bn h3.bc, .slice h3.sp h3.sn h3.sc, .slice h3.fp h3.fn h3.fc, .slice h3.wp h3.wn h3.wc] 31)).cell? ⟨w4.heap.size, 0, none⟩ = some (.int .i64 m2.room) := hn5 0
            have n1 : (w5.alloc (.cells #[.int .i64 m2.room, .int .i64 m2.count, .slice h3.bp h3.bn h3.bc, .slice h3.sp h3.sn h3.sc, .slice h3.fp h3.fn h3.fc, .slice h3.wp h3.wn h3.wc] 31)).cell? ⟨w4.heap.size, 1, none⟩ = some (.int .i64 m2.count) := hn5 1
            have n2 : (w5.alloc (.cells #[.int .i64 m2.room, .int .i64 m2.count, .slice h3.bp h3.bn h3.bc, .slice h3.sp h3.sn h3.sc, .slice h3.fp h3.fn h3.fc, .slice h3.wp h3.wn h3.wc] 31)).cell? ⟨w4.heap.size, 2, none⟩ = some (.slice h2.bp h2.bn h2.bc) := hn5 2
            have n3 : (w5.alloc (.cells #[.int .i64 m2.room, .int .i64 m2.count, .slice h3.bp h3.bn h3.bc, .slice h3.sp h3.sn h3.sc, .slice h3.fp h3.fn h3.fc, .slice h3.wp h3.wn h3.wc] 31)).cell? ⟨w4.heap.size, 3, none⟩ = some (.slice h2.sp h2.sn h2.sc) := hn5 3
            have n4 : (w5.alloc (.cells #[.int .i64 m2.room, .int .i64 m2.count, .slice h3.bp h3.bn h3.bc, .slice h3.sp h3.sn h3.sc, .slice h3.fp h3.fn h3.fc, .slice h3.wp h3.wn h3.wc] 31)).cell? ⟨w4.heap.size, 4, none⟩ = some (.slice h2.fp h2.fn h2.fc) := hn5 4
            have n5 : (w5.alloc (.cells #[.int .i64 m2.room, .int .i64 m2.count, .slice h3.bp h3.bn h3.bc, .slice h3.sp h3.sn h3.sc, .slice h3.fp h3.fn h3.fc, .slice h3.wp h3.wn h3.wc] 31)).cell? ⟨w4.heap.size, 5, none⟩ = some (.slice h2.wp h2.wn h2.wc) := hn5 5
            have c0 : (w5.alloc (.cells #[.int .i64 m2.room, .int .i64 m2.count, .slice h3.bp h3.bn h3.bc, .slice h3.sp h3.sn h3.sc, .slice h3.fp h3.fn h3.fc, .slice h3.wp h3.wn h3.wc] 31)).cell? ⟨w3.heap.size, 0, none⟩ = some (.int .i64 m.room) := hc5 0
            have c1 : (w5.alloc (.cells #[.int .i64 m2.room, .int .i64 m2.count, .slice h3.bp h3.bn h3.bc, .slice h3.sp h3.sn h3.sc, .slice h3.fp h3.fn h3.fc, .slice h3.wp h3.wn h3.wc] 31)).cell? ⟨w3.heap.size, 1, none⟩ = some (.int .i64 m.count) := hc5 1
            have c2 : (w5.alloc (.cells #[.int .i64 m2.room, .int .i64 m2.count, .slice h3.bp h3.bn h3.bc, .slice h3.sp h3.sn h3.sc, .slice h3.fp h3.fn h3.fc, .slice h3.wp h3.wn h3.wc] 31)).cell? ⟨w3.heap.size, 2, none⟩ = some (.slice h.bp h.bn h.bc) := hc5 2
            have c3 : (w5.alloc (.cells #[.int .i64 m2.room, .int .i64 m2.count, .slice h3.bp h3.bn h3.bc, .slice h3.sp h3.sn h3.sc, .slice h3.fp h3.fn h3.fc, .slice h3.wp h3.wn h3.wc] 31)).cell? ⟨w3.heap.size, 3, none⟩ = some (.slice h.sp h.sn h.sc) := hc5 3
            have c4 : (w5.alloc (.cells #[.int .i64 m2.room, .int .i64 m2.count, .slice h3.bp h3.bn h3.bc, .slice h3.sp h3.sn h3.sc, .slice h3.fp h3.fn h3.fc, .slice h3.wp h3.wn h3.wc] 31)).cell? ⟨w3.heap.size, 4, none⟩ = some (.slice h.fp h.fn h.fc) := hc5 4
            have c5 : (w5.alloc (.cells #[.int .i64 m2.room, .int .i64 m2.count, .slice h3.bp h3.bn h3.bc, .slice h3.sp h3.sn h3.sc, .slice h3.fp h3.fn h3.fc, .slice h3.wp h3.wn h3.wc] 31)).cell? ⟨w3.heap.size, 5, none⟩ = some (.slice h.wp h.wn h.wc) := hc5 5
            have f0 := hf5 0
            have f1 := hf5 1
            have f2 := hf5 2
            have f3 := hf5 3
            have f4 := hf5 4
            have f5 := hf5 5
            obtain ⟨hPI, hPK, hPX, hPY⟩ := hpa
            have HPI := Lib.hid hPI
            have HPK := Lib.hid (Kq8.comp (Kq8.of_below HBW.out) hPK)
            have HPX := Lib.hid (hPX.mono HBW.out.size)
            have HPY := Lib.hid (hPY.mono HBW.out.size)
            have HOK2 := Lib.hid (show DkOk (50 + k + 1) m2 by rw [← HM2.out]; exact step_ok x.1 HOK.out (by have := HXL.out.1; omega))
            have HRM2 := Lib.hid (show m2.room = 5000 by rw [← HM2.out]; exact (step_room m x.1).trans HRM.out)
            have HPB := Lib.hid (HB.out.trans (HPK.out.below (fun k hk => In3.from HI.out.fx HI.out.fy HNB.out k hk) HB.out.size))
            clear hd3 hr3 hk3 hg3 hb5 hni hn5 hI5 hc5 hf5 hPI hPK hPX hPY
            clear b0 b1 b2 b3 b4 b5 e0 e1 e2 e3 e4 e5
            go_wp2
            go_roundw
            case rel =>
              have h37 : x.1.kind % 7 < 3 := by rw [HC7.out]; exact hc3
              exact ⟨k + 1, by omega, by go_num, h2, m2, S2, S3, HPI.out, HOK2.out, HRM2.out, by rw [← HM2.out]; exact seen64_step HSE.out x.1 h37, by rw [← HM2.out]; exact later_step HLAT.out x.1 h37, HKQ.out.trans (grew3 HGX.out HGY.out) HPK.out, HGX.out.trans HPX.out HKQ.out.size, HGY.out.trans HPY.out HKQ.out.size, HPB.out⟩
            case measure => simp [intOf]; omega
          · have t1 : (3 : Int) ≤ (c7 : Int) := by omega
            have t2 : decide ((3 : Int) ≤ (c7 : Int)) = true := decide_eq_true t1
            have t3 : 3 ≤ c7 := by omega
            go_wp2
            go_roundw
            case rel =>
              rw [HEA.out]
              exact ⟨k + 1, by omega, by go_num, h, m, Sx, Sy, HIA.out, HOK.out.mono (by omega), HRM.out, HSE.out, HLAT.out, Kq8.comp HKQ.out (Kq8.of_below HBW.out), HGX.out, HGY.out, HBA.out⟩
            case measure => simp [intOf]; omega
        · have z1 : ¬ (k : Int) < (n : Int) := by omega
          have z2 : decide ((k : Int) < (n : Int)) = false := decide_eq_false z1
          have HCX : Hid (Calls Tryz.prog 12 #[.pointer (some ⟨bx, 0, none⟩), .slice none 0 0] wr fun e w' => e = .returned (.tuple #[]) ∧ Nxt Sx bx wr (crashL m []) w') := Lib.hid (dcrash_any HI.out.dx (HOK.out.mono (by omega)) [] none 0 (by decide) (LsG.none0 _ _ _))
          go_wp2_with fail
          refine HCX.out.mono ?_
          rintro e w7 ⟨rfl, hn7⟩
          have hI7 := HI.out.callx hn7.1 hn7.2 (grew_SN _ _ _) HB.out.size
          have HB7 := Lib.hid (HB.out.trans (hn7.2.below HI.out.fx HB.out.size))
          have HK7 := Lib.hid (HKQ.out.trans (grew3 HGX.out HGY.out) (kq3_x (Sy := Sy) (B := w3.heap.size) hn7.2))
          obtain ⟨S7, hS7⟩ : ∃ S7, SN Sx wr.heap.size w7.heap.size = S7 := ⟨_, rfl⟩
          have HG7 := Lib.hid (show GrewTo WT.heap.size S4 S7 by rw [← hS7]; exact HGX.out.trans (grew_SN _ _ _) HKQ.out.size)
          rw [hS7] at hI7
          have HI7 := Lib.hid hI7
          have hc7 := hI7.cell
          have d0 : w7.cell? ⟨w3.heap.size, 0, none⟩ = some (.int .i64 m.room) := hc7 0
          have d1 : w7.cell? ⟨w3.heap.size, 1, none⟩ = some (.int .i64 m.count) := hc7 1
          have d2 : w7.cell? ⟨w3.heap.size, 2, none⟩ = some (.slice h.bp h.bn h.bc) := hc7 2
          have d3 : w7.cell? ⟨w3.heap.size, 3, none⟩ = some (.slice h.sp h.sn h.sc) := hc7 3
          have d4 : w7.cell? ⟨w3.heap.size, 4, none⟩ = some (.slice h.fp h.fn h.fc) := hc7 4
          have d5 : w7.cell? ⟨w3.heap.size, 5, none⟩ = some (.slice h.wp h.wn h.wc) := hc7 5
          have HWN := Lib.hid HI.out.ref.wn
          have hwn1 : h.wn < 100000000 := by have := HWN.out; have := HOK.out.both; omega
          clear hn7 hI7 hc7 hS7 z1 z2
          go_wp2
          go_loopw [114] (fun i wq => ∃ k : Nat, k ≤ h.wn ∧ i = .int .i64 k ∧ Row wq w7.heap.size 4 h.wn (fun j => .bool (decide (j < k))) ∧ Below w7.heap.size w7 wq) (fun i _ => h.wn - (intOf i).toNat)
          case atStart => exact ⟨0, Nat.zero_le _, rfl, (Row.new _ _ _ _).congr (fun i _ => by simp), (Below.refl _ _).alloc (Nat.le_refl _) _⟩
          case round =>
            try clear d0 d1 d2 d3 d4 d5
            obtain ⟨t, ht, rfl, hR, hBt⟩ := hrel
            have HR := Lib.hid hR
            have HBt := Lib.hid hBt
            clear hBt
            by_cases hlt2 : t < h.wn
            · have v1 : (t : Int) < (h.wn : Int) := by omega
              have v2 : decide ((t : Int) < (h.wn : Int)) = true := decide_eq_true v1
              have hw66 : IntKind.i64.wrap ((t : Int) + 1) = (t : Int) + 1 := by rw [IntKind.wrap_i64]; omega
              have r1 := hR.cell t hlt2
              have r2 := hR.free t
              clear hR
              go_wp2
              go_roundw
              case rel => exact ⟨t + 1, by omega, by go_num, (HR.out.set t (.bool true)).congr (fun j _ => by
                by_cases e : j = t
                · simp [e]
                · simp only [e, if_false]
                  congr 1
                  rw [decide_eq_decide]
                  omega), HBt.out.setCell (Nat.le_refl _) _⟩
              case measure => simp [intOf]; omega
            · have v1 : ¬ (t : Int) < (h.wn : Int) := by omega
              have v2 : decide ((t : Int) < (h.wn : Int)) = false := decide_eq_false v1
              have htn : t = h.wn := by omega
              have HR2 := Lib.hid (show Row wr w7.heap.size 4 h.wn (fun j => .bool (decide (j < h.wn))) by rw [← htn]; exact htn ▸ HR.out)
              have HI8 := Lib.hid (HI7.out.next HBt.out)
              have HB8 := Lib.hid (HB7.out.trans (HBt.out.mono HB7.out.size))
              have hrl : (List.replicate h.wn true).length = h.wn := List.length_replicate
              have hls : LsG (fun k => ¬ Sy k) wr (some ⟨w7.heap.size, 0, none⟩) (List.replicate h.wn true).length h.wn 1 ((List.replicate h.wn true).map Value.bool) := by
                refine ⟨fun j hj => ⟨_, _, rfl, ?_⟩, by rw [List.length_map]; omega, fun c o e _ => ?_, (fun e => by cases e), by rw [hrl]; exact Nat.le_refl _⟩
                · rw [List.length_map, hrl] at hj
                  rw [Nat.zero_add, HR2.out.cell j hj, List.getElem?_map, List.getElem?_replicate]
                  simp [hj]
                · injection e with e
                  injection e with e1 e2
                  rw [← e1]
                  exact ⟨fun q => Nat.lt_irrefl _ (HI7.out.dy.low _ q), HR2.out.lt⟩
              have hcy := dcrash_any HI8.out.dy (HOK.out.mono (by omega)) (List.replicate h.wn true) (some ⟨w7.heap.size, 0, none⟩) h.wn (by rw [hrl]; have := HWN.out; have := HOK.out.both; omega) hls
              rw [hrl] at hcy
              have HCY := Lib.hid hcy
              clear hR hls hrl hcy htn
              go_wp2_with fail
              refine HCY.out.mono ?_
              rintro e w9 ⟨rfl, hn9⟩
              have hI9 := (HI8.out.swap.callx hn9.1 hn9.2 (grew_SN _ _ _) HB8.out.size).swap
              have HB9 := Lib.hid (HB8.out.trans (hn9.2.below HI8.out.fy HB8.out.size))
              have HK9 := Lib.hid ((HK7.out.comp (Kq8.of_below HBt.out)).trans (grew3 HG7.out HGY.out) (kq3_y (Sx := S7) (B := w3.heap.size) hn9.2))
              obtain ⟨S9, hS9⟩ : ∃ S9, SN Sy wr.heap.size w9.heap.size = S9 := ⟨_, rfl⟩
              rw [hS9] at hI9
              have HI9 := Lib.hid hI9
              have hnT : ¬ In3 S4 S5 w3.heap.size w6.heap.size := fun q => by
                rcases q with q | q | q
                · exact HTN.out.1 q
                · exact HTN.out.2.1 q
                · exact HTN.out.2.2 q
              have hbT := HK9.out.block _ HLTT.out hnT
              have hcT := fun j => ((World.cell?_of_block (w := WT) (w' := w9) (a := ⟨w6.heap.size, j, none⟩) hbT).trans (HCT.out j) : w9.cell? ⟨w6.heap.size, j, none⟩ = (lisD m0 h6)[j]?)
              have hfT := fun j => ((World.frozen?_of_block (w := WT) (w' := w9) (a := ⟨w6.heap.size, j, none⟩) hbT).trans (HFT.out j) : w9.frozen? ⟨w6.heap.size, j, none⟩ = false)
              have hcB := HI9.out.cell
              have hfB := HI9.out.free
              have hcE : ∀ j, ((w9.setCell ⟨w6.heap.size, 5, none⟩ (.slice none 0 0)).setCell ⟨w3.heap.size, 5, none⟩ (.slice none 0 0)).cell? ⟨w6.heap.size, j, none⟩ = (lisD (nwD m0) (nwH h6))[j]? := fun j => (cell_set_far _ (fun e => HTN.out.2.2 e) j).trans (cell_nw hcT j)
              have hcF : ∀ j, ((w9.setCell ⟨w6.heap.size, 5, none⟩ (.slice none 0 0)).setCell ⟨w3.heap.size, 5, none⟩ (.slice none 0 0)).cell? ⟨w3.heap.size, j, none⟩ = (lisD (nwD m) (nwH h))[j]? := cell_nw fun j => (cell_set_far _ (fun e => HTN.out.2.2 e.symm) j).trans (hcB j)
              have HTS := Lib.hid (fun k (hk : S7 k) => (fun e => by
                rcases HG7.out k hk with q | q
                · exact HTN.out.1 (e ▸ q)
                · have := HLTT.out; omega : k ≠ w6.heap.size))
              have HTY := Lib.hid (fun k (hk : S9 k) => (fun e => by
                rw [← hS9] at hk
                rcases hk with q | q
                · rcases HGY.out k q with q | q
                  · exact HTN.out.2.1 (e ▸ q)
                  · have := HLTT.out; omega
                · have h1 := HLTT.out; have h2 := HK7.out.size; have h3 := HBt.out.size; omega : k ≠ w6.heap.size))
              have HKE := Lib.hid (kq_two w9 w6.heap.size w3.heap.size)
              have HDX := Lib.hid (HI9.out.dx.apart HKE.out fun k hk e => by
                rcases e with e | e
                · exact HTS.out k hk e
                · exact HI9.out.nx (e ▸ hk))
              have HDY := Lib.hid (HI9.out.dy.apart HKE.out fun k hk e => by
                rcases e with e | e
                · exact HTY.out k hk e
                · exact HI9.out.ny (e ▸ hk))
              have HRT := Lib.hid (((HQT.out.ref.keep (fun c hc hl => HK9.out.block c hl fun q => by
                rcases q with q | q | q
                · exact hc.1 q
                · exact hc.2.1 q
                · exact hc.2.2 (.inl q)) HK9.out.size).keep (fun c hc hl => HKE.out.block c hl fun q => by
                rcases q with q | q
                · exact hc.2.2 (.inr q)
                · exact hc.2.2 (.inl q)) HKE.out.size).nw)
              have HRB := Lib.hid ((HI9.out.ref.keep (fun c hc hl => HKE.out.block c hl fun q => by
                rcases q with q | q
                · exact hc.2.2 (.inr q)
                · exact hc.2.2 (.inl q)) HKE.out.size).nw)
              have HS1 := Lib.hid (show SameD (crashL m []) (nwD m0) from ⟨HLAT.out.seen_none.trans HSS0.out, fun f hf => HLAT.out.body f (HOK0.out.inS f hf), HLAT.out.room, rfl⟩)
              have HS2 := Lib.hid (show SameD (crashL m (List.replicate h.wn true)) (nwD m) from ⟨by rw [← HWN.out]; exact HLAT.out.seen_all, fun f _ => rfl, rfl, rfl⟩)
              have HBE := Lib.hid (show Below w.heap.size w ((w9.setCell ⟨w6.heap.size, 5, none⟩ (.slice none 0 0)).setCell ⟨w3.heap.size, 5, none⟩ (.slice none 0 0)) from (HB9.out.setCell HTL.out _).setCell HNB.out _)
              have hi1 := is8_two HS1.out HDX.out ((HOK.out.crash []).mono (by omega)) (HOK0.out.nw.mono (by omega)) HRT.out
              have hi2 := fun (u : World) (hu : Below ((w9.setCell ⟨w6.heap.size, 5, none⟩ (.slice none 0 0)).setCell ⟨w3.heap.size, 5, none⟩ (.slice none 0 0)).heap.size ((w9.setCell ⟨w6.heap.size, 5, none⟩ (.slice none 0 0)).setCell ⟨w3.heap.size, 5, none⟩ (.slice none 0 0)) u) => is8_two HS2.out (HDY.out.of_below hu) ((HOK.out.crash (List.replicate h.wn true)).mono (by omega)) (HOK.out.nw.mono (by omega)) (HRB.out.of_below hu)
              have hzB : w3.heap.size < ((w9.setCell ⟨w6.heap.size, 5, none⟩ (.slice none 0 0)).setCell ⟨w3.heap.size, 5, none⟩ (.slice none 0 0)).heap.size := Nat.lt_of_lt_of_le HI9.out.lt HKE.out.size
              have a5 : w9.cell? ⟨w6.heap.size, 5, none⟩ = some (.slice h6.wp h6.wn h6.wc) := hcT 5
              have a6 := hfT 5
              have a7 : (w9.setCell ⟨w6.heap.size, 5, none⟩ (.slice none 0 0)).cell? ⟨w3.heap.size, 5, none⟩ = some (.slice h.wp h.wn h.wc) := (cell_set_far _ (fun e => HTN.out.2.2 e.symm) 5).trans (hcB 5)
              have a8 := hfB 5
              have a9 : w9.cell? ⟨w3.heap.size, 5, none⟩ = some (.slice h.wp h.wn h.wc) := hcB 5
              have e0 : ((w9.setCell ⟨w6.heap.size, 5, none⟩ (.slice none 0 0)).setCell ⟨w3.heap.size, 5, none⟩ (.slice none 0 0)).cell? ⟨w6.heap.size, 0, none⟩ = some (.int .i64 m0.room) := hcE 0
              have e1 : ((w9.setCell ⟨w6.heap.size, 5, none⟩ (.slice none 0 0)).setCell ⟨w3.heap.size, 5, none⟩ (.slice none 0 0)).cell? ⟨w6.heap.size, 1, none⟩ = some (.int .i64 m0.count) := hcE 1
              have e2 : ((w9.setCell ⟨w6.heap.size, 5, none⟩ (.slice none 0 0)).setCell ⟨w3.heap.size, 5, none⟩ (.slice none 0 0)).cell? ⟨w6.heap.size, 2, none⟩ = some (.slice h6.bp h6.bn h6.bc) := hcE 2
              have e3 : ((w9.setCell ⟨w6.heap.size, 5, none⟩ (.slice none 0 0)).setCell ⟨w3.heap.size, 5, none⟩ (.slice none 0 0)).cell? ⟨w6.heap.size, 3, none⟩ = some (.slice h6.sp h6.sn h6.sc) := hcE 3
              have e4 : ((w9.setCell ⟨w6.heap.size, 5, none⟩ (.slice none 0 0)).setCell ⟨w3.heap.size, 5, none⟩ (.slice none 0 0)).cell? ⟨w6.heap.size, 4, none⟩ = some (.slice h6.fp h6.fn h6.fc) := hcE 4
              have e5 : ((w9.setCell ⟨w6.heap.size, 5, none⟩ (.slice none 0 0)).setCell ⟨w3.heap.size, 5, none⟩ (.slice none 0 0)).cell? ⟨w6.heap.size, 5, none⟩ = some (.slice none 0 0) := hcE 5
              have HCF := Lib.hid hcF
              obtain ⟨WE, hWE⟩ : ∃ WE, ((w9.setCell ⟨w6.heap.size, 5, none⟩ (.slice none 0 0)).setCell ⟨w3.heap.size, 5, none⟩ (.slice none 0 0)) = WE := ⟨_, rfl⟩
              have HEE := Lib.hid hWE
              unfold aggD nwD nwH at hi1 hi2
              have HIS1 := Lib.hid hi1
              have HIS2 := Lib.hid hi2
              rw [hWE] at HIS1 HIS2 HCF HBE hzB
              have HZB := Lib.hid hzB
              clear hn9 hI9 hS9 hnT hbT hcT hfT hcB hfB hcE hcF hi1 hi2 hzB hWE
              go_wp2_with fail
              rw [HEE.out]
              refine HIS1.out.mono ?_
              rintro e w10 ⟨rfl, hB10⟩
              have hcG := fun j => (hB10.cell (p := ⟨w3.heap.size, j, none⟩) HZB.out).trans (HCF.out j)
              have HI2 := Lib.hid (HIS2.out w10 hB10)
              have HB10 := Lib.hid (HBE.out.trans (hB10.mono HBE.out.size))
              have g0 : w10.cell? ⟨w3.heap.size, 0, none⟩ = some (.int .i64 m.room) := hcG 0
              have g1 : w10.cell? ⟨w3.heap.size, 1, none⟩ = some (.int .i64 m.count) := hcG 1
              have g2 : w10.cell? ⟨w3.heap.size, 2, none⟩ = some (.slice h.bp h.bn h.bc) := hcG 2
              have g3 : w10.cell? ⟨w3.heap.size, 3, none⟩ = some (.slice h.sp h.sn h.sc) := hcG 3
              have g4 : w10.cell? ⟨w3.heap.size, 4, none⟩ = some (.slice h.fp h.fn h.fc) := hcG 4
              have g5 : w10.cell? ⟨w3.heap.size, 5, none⟩ = some (.slice none 0 0) := hcG 5
              clear hB10 hcG e0 e1 e2 e3 e4 e5 a5 a6 a7 a8 a9
              go_wp2_with fail
              refine HI2.out.mono ?_
              rintro e w11 ⟨rfl, hB11⟩
              have HB11 := Lib.hid (HB10.out.trans (hB11.mono HB10.out.size))
              clear hB11 g0 g1 g2 g3 g4 g5
              go_wp2
              go_ret
              exact ⟨rfl, HB11.out⟩
theorem safe_any (la : List (Ac × AcH)) (pa : Option Addr) (na capa : Nat) (lb : List (Ac × AcH)) (pb : Option Addr) (n capb : Nat) (w : World)
    (ha : AcsL w pa na capa la) (hna : na < 9223372036854775808) (hza : ∀ x ∈ la, x.1.path.length < 9223372036854775808 ∧ x.1.to_.length < 9223372036854775808 ∧ x.1.b.length < 9223372036854775808 ∧ x.1.ks.length < 9223372036854775808) (hka : ∀ x ∈ la, x.1.kind < 256)
    (hb : AcsL w pb n capb lb) (hnb : n < 9223372036854775808) (hzb : ∀ x ∈ lb, x.1.path.length < 9223372036854775808 ∧ x.1.to_.length < 9223372036854775808 ∧ x.1.b.length < 9223372036854775808 ∧ x.1.ks.length < 9223372036854775808) (hkb : ∀ x ∈ lb, x.1.kind < 256) :
    Calls Tryz.prog 4 #[.slice pa na capa, .slice pb n capb] w fun e w' => e = .returned (.bool true) ∧ Below w.heap.size w w' := by
  cases hs : (shortL la && shortL lb) with
  | false => exact safe_long la pa na capa lb pb n capb w ha hna hza hka hb hnb hzb hkb hs
  | true => exact safe_short la pa na capa lb pb n capb w ha hna hza hka hb hnb hzb hkb hs
end Go.Proofs.YtjglgohchhdkkaaGreatDoor
