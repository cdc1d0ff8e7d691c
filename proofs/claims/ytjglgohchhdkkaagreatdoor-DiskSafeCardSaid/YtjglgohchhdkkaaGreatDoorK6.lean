/- Merged texts: Wri8, Pat8, Dsx8, Awk8, Act8, RfKq8. -/
import Derived.Test.YtjglgohchhdkkaaGreatDoorK5
import Derived.Sort.KeysCollected
import Derived.Lib.SlBytesConst
import Derived.Test.YtjglgohchhdkkaaGreatDoorLsg8
import Derived.Test.YtjglgohchhdkkaaGreatDoorRef7
import Derived.Test.YtjglgohchhdkkaaGreatDoorDsk8
import Derived.Test.YtjglgohchhdkkaaGreatDoorRefo8
import Derived.Test.YtjglgohchhdkkaaGreatDoorK2
set_option linter.unusedSimpArgs false
set_option linter.unusedVariables false
/- Write of the program's disk. -/
namespace Go.Proofs.YtjglgohchhdkkaaGreatDoor
open Go Go.RowKit

def fileW (m : Dk) (p x : S8) (time : Int) : Fl := ⟨p, m.bodies.length, x.length, time, m.count + 1⟩
def bodyW (m : Dk) (x : S8) : Dk := { m with count := m.count + 1, bodies := m.bodies ++ [x] }
def writeQ (m : Dk) (p x : S8) (time : Int) : Dk × Nat := if writeP m p x.length = 0 then (changeL (bodyW m x) ⟨1, [], fileW m p x time⟩, 0) else (m, writeP m p x.length)
theorem writeQ_eq (m : Dk) (p x : S8) (time : Int) (h : m.seen.length ≤ 64) : writeQ m p x time = writeL m p x time := by
  unfold writeQ
  have h2 := writeP_eq m p x time h
  by_cases h0 : writeP m p x.length = 0
  · rw [if_pos h0]
    rw [h0] at h2
    have : ∀ y, writeL m p x time = y → y.2 = 0 → y = (changeL (bodyW m x) ⟨1, [], fileW m p x time⟩, 0) := by
      intro y hy h3
      unfold writeL at hy
      repeat' split at hy
      all_goals first | (rw [← hy] at h3; cases h3; done) | (rw [← hy]; rfl)
    exact (this _ rfl h2).symm
  · rw [if_neg h0]
    have h3 := writeL_no m p x time (by rw [h2]; exact h0)
    exact (Prod.ext h3 h2).symm
theorem writeP_small {m : Dk} {p : S8} {n : Nat} (h : writeP m p n = 0) : n ≤ 262144 ∧ goodL p = true := by
  unfold writeP at h
  cases hg : goodL p with
  | false => rw [hg] at h; simp at h
  | true =>
    rw [hg] at h
    refine ⟨?_, rfl⟩
    rcases Nat.lt_or_ge 262144 n with g | g
    · rw [if_neg (by decide), if_pos g] at h
      exact absurd h (by decide)
    · exact g
def slPut (sl : Nat → Hn) (i : Nat) (h : Hn) (j : Nat) : Hn := if j = i then h else sl j
theorem slPut_at (sl : Nat → Hn) (i : Nat) (h : Hn) : slPut sl i h i = h := by unfold slPut; rw [if_pos rfl]
theorem slPut_lt (sl : Nat → Hn) {i j : Nat} (h : Hn) (hj : j < i) : slPut sl i h j = sl j := by unfold slPut; rw [if_neg (by omega)]
section
variable {w w' : World} {S S' : Nat → Prop} {b : Nat} {m : Dk} {mv md : Nat} {pv : Value} {vs : List Value} {sl : Nat → Hn}
theorem Dp.count (h : Dp w S b m mv md pv vs sl) (c : Int) : Dp (w.setCell ⟨b, 1, none⟩ (.int .i64 c)) S b { m with count := c } mv md pv vs sl := by
  have hk : ∀ k, k ≠ b → (w.setCell ⟨b, 1, none⟩ (.int .i64 c)).heap[k]? = w.heap[k]? := fun k hne => Below.heap_setCell _ _ _ _ hne
  have nty : ∀ k cs T, w.heap[k]? = some (.cells cs T (0, 0)) → T ≠ 51 → k ≠ b := fun k cs T h2 hT e => by
    rw [e, h.box] at h2
    injection h2 with h2
    injection h2 with _ h2 _
    exact hT h2.symm
  obtain ⟨e1, c1, hv1, _⟩ := id h.vis
  obtain ⟨e2, c2, hd1, _⟩ := id h.dur
  exact ⟨setCell_box h.box 1 _, h.sb, h.sv, h.sd, h.ne, h.vis.keep (hk mv (h.ne_map hv1).1), h.dur.keep (hk md (h.ne_map hd1).1), h.bod.keep (fun k cur _ hc => hk k (nty k cur _ hc (by decide))) (fun _ x => x), h.pd.keep (fun k T cs _ h2 hT => hk k (nty k cs T h2 (by rcases hT with rfl | rfl | rfl <;> decide))) (fun _ x => x), ⟨h.sz.seen, h.sz.safe, h.sz.waits⟩, fun k hk2 => by simpa using h.low k hk2⟩
theorem body_new (m : Dk) (x : S8) {f : Fl} (h : f.body < m.bodies.length) : bodyL { m with bodies := m.bodies ++ [x] } f = bodyL m f := by
  unfold bodyL
  show (m.bodies ++ [x]).getD f.body [] = m.bodies.getD f.body []
  rw [List.getD_eq_getElem?_getD, List.getElem?_append_left h, ← List.getD_eq_getElem?_getD]
theorem Dp.body {n : Nat} (h : Dp w S b m mv md pv vs sl) (hok : DkOk n m) (hB : Below w.heap.size w w') (x : S8) (q : Option Addr) (k c : Nat) (ho : w'.ownsRow w.heap.size 5 1 (.slice q k c) x.length (bytC x)) :
    Dp w' (SN S w.heap.size w'.heap.size) b { m with bodies := m.bodies ++ [x] } mv md pv vs (slPut sl m.bodies.length ⟨q, k, c⟩) := by
  have hw := h.wide hB
  have hlt : ∀ {i}, i < (m.bodies ++ [x]).length → i < m.bodies.length ∨ i = m.bodies.length := fun hi => by
    rw [List.length_append] at hi
    simp at hi
    omega
  have hold : ∀ {i}, i < m.bodies.length → (m.bodies ++ [x]).getD i [] = m.bodies.getD i [] := fun hi => by
    rw [List.getD_eq_getElem?_getD, List.getElem?_append_left hi, ← List.getD_eq_getElem?_getD]
  have hnew : (m.bodies ++ [x]).getD m.bodies.length [] = x := by
    rw [List.getD_eq_getElem?_getD, List.getElem?_append_right (Nat.le_refl _)]
    simp
  have hfile : ∀ f : Fl, f.body < m.bodies.length → sl f.body = slPut sl m.bodies.length ⟨q, k, c⟩ f.body := fun f hf => (slPut_lt sl _ hf).symm
  refine ⟨hw.box, hw.sb, hw.sv, hw.sd, hw.ne, ?_, ?_, ⟨fun i hi => ?_, fun i hi g hg => ?_, fun i j hi hj hne g hg => ?_⟩, ⟨hw.pd.own, hw.pd.in_, fun i hi => ?_⟩, ⟨fun f hf => ?_, fun f hf => ?_, fun y hy hk => ?_⟩, hw.low⟩
  · show MpB w' mv (m.seen.map _)
    rw [← ent_congr (sl := sl) (fun f hf => hfile f (hok.inS f hf))]
    exact hw.vis
  · show MpB w' md (m.safe.map _)
    rw [← ent_congr (sl := sl) (fun f hf => hfile f (hok.inF f hf))]
    exact hw.dur
  · show World.ownsRow _ _ _ _ _ ((m.bodies ++ [x]).getD i []).length (bytC ((m.bodies ++ [x]).getD i []))
    rcases hlt hi with hi | hi
    · rw [hold hi, slPut_lt sl _ hi]
      exact hw.bod.own i hi
    · rw [hi, hnew, slPut_at]
      exact own_lower ho (Nat.zero_le _)
  · rcases hlt hi with hi | hi
    · rw [slPut_lt sl _ hi] at hg
      exact hw.bod.in_ i hi g hg
    · rw [hi, slPut_at] at hg
      exact .inr (ho.lt g hg)
  · rcases hlt hi with hi | hi <;> rcases hlt hj with hj | hj
    · rw [slPut_lt sl _ hi] at hg
      rw [slPut_lt sl _ hj]
      exact hw.bod.ap i j hi hj hne g hg
    · rw [slPut_lt sl _ hi] at hg
      rw [hj, slPut_at]
      intro e
      have h1 := h.low g (h.bod.in_ i hi g hg)
      have h2 := (ho.lt g e).1
      omega
    · rw [hi, slPut_at] at hg
      rw [slPut_lt sl _ hj]
      intro e
      have h1 := h.low g (h.bod.in_ j hj g e)
      have h2 := (ho.lt g hg).1
      omega
    · omega
  · obtain ⟨v, e, hc⟩ := hw.pd.cls i hi
    refine ⟨v, e, ?_⟩
    cases hc with
    | write b1 b2 hk hv h1 h2 s1 s2 =>
      refine .write b1 b2 hk hv h1 ?_ s1 s2
      have hb := hok.inW _ (List.getElem_mem hi) hk
      unfold BoxF fileC at h2 ⊢
      rw [← hfile _ hb]
      exact h2
    | rename b1 b2 hk hv h1 h2 s1 s2 => exact .rename b1 b2 hk hv h1 h2 s1 s2
    | remove b1 hk hv h1 s1 => exact .remove b1 hk hv h1 s1
  · rw [body_new m x (hok.inS f hf)]; exact h.sz.seen f hf
  · rw [body_new m x (hok.inF f hf)]; exact h.sz.safe f hf
  · rw [body_new m x (hok.inW y hy hk)]; exact h.sz.waits y hy hk
theorem DkOk.bodyW {n : Nat} (h : DkOk n m) (x : S8) (hx : x.length ≤ 262144) : DkOk (n + 1) (bodyW m x) := by
  have hl : (m.bodies ++ [x]).length = m.bodies.length + 1 := by simp
  exact ⟨Nat.le_succ_of_le h.seen, Nat.le_succ_of_le h.both, by show (m.bodies ++ [x]).length ≤ _; rw [hl]; exact Nat.add_le_add_right h.bod 1, by have := h.cnt0; show 0 ≤ m.count + 1; omega, by have := h.cnt1; show m.count + 1 ≤ _; push_cast; omega, h.shS, h.shF, h.chk, fun f hf => by show _ < (m.bodies ++ [x]).length; rw [hl]; exact Nat.lt_succ_of_lt (h.inS f hf), fun f hf => by show _ < (m.bodies ++ [x]).length; rw [hl]; exact Nat.lt_succ_of_lt (h.inF f hf), fun c hc hk => by show _ < (m.bodies ++ [x]).length; rw [hl]; exact Nat.lt_succ_of_lt (h.inW c hc hk), fun y hy => by
    rcases List.mem_append.1 hy with hy | hy
    · exact h.bs y hy
    · simp at hy; rw [hy]; exact hx⟩
theorem stamp_cells (u : World) (a b c : Value) : (u.alloc (.cells #[a, b, c] 62)).cell? ⟨u.heap.size, 0, none⟩ = some a ∧ (u.alloc (.cells #[a, b, c] 62)).cell? ⟨u.heap.size, 1, none⟩ = some b ∧ (u.alloc (.cells #[a, b, c] 62)).cell? ⟨u.heap.size, 2, none⟩ = some c := by
  have h := World.alloc_heap_new u (.cells #[a, b, c] 62)
  unfold World.cell?
  rw [h]
  simp
theorem three_kept {u u' : World} {k : Nat} {a b c : Value} (h : u.cell? ⟨k, 0, none⟩ = some a ∧ u.cell? ⟨k, 1, none⟩ = some b ∧ u.cell? ⟨k, 2, none⟩ = some c) (hk : u'.heap[k]? = u.heap[k]?) : u'.cell? ⟨k, 0, none⟩ = some a ∧ u'.cell? ⟨k, 1, none⟩ = some b ∧ u'.cell? ⟨k, 2, none⟩ = some c :=
  ⟨(World.cell?_of_block hk).trans h.1, (World.cell?_of_block hk).trans h.2.1, (World.cell?_of_block hk).trans h.2.2⟩
set_option maxRecDepth 100000 in
set_option maxHeartbeats 8000000 in
theorem write_any (h : Dp w S b m mv md pv vs sl) (hok : DkOk 299 m) (hr0 : 0 ≤ m.room) (hr1 : m.room ≤ 1048576) (p x : S8) (q : Option Addr) (cap : Nat) (time : Int) (hp : p.length ≤ 1000) (hx : x.length ≤ 400000) (hl : LsG (fun k => ¬ S k) w q x.length cap 1 (bytC x)) : Calls Tryz.prog 13 #[.pointer (some ⟨b, 0, none⟩), .string (mkS p), .slice q x.length cap, .int .i64 time] w fun e w' => e = .returned (.int .i64 ((writeQ m p x time).2 : Int)) ∧ DPost S b w (writeQ m p x time).1 w' := by
  have HRF := Lib.hid (refusal_any h (hok.mono (by decide)) hr0 hr1 p x.length hp hx)
  have H := Lib.hid h
  have HOK := Lib.hid hok
  have HL := Lib.hid hl
  have HPX := Lib.hid (And.intro hp hx)
  have HCT := Lib.hid (And.intro hok.cnt0 hok.cnt1)
  obtain ⟨cd, hcd⟩ : ∃ cd, writeP m p x.length = cd := ⟨_, rfl⟩
  rw [hcd] at HRF
  obtain ⟨xl, hxl⟩ : ∃ xl, x.length = xl := ⟨_, rfl⟩
  rw [hxl] at HRF
  rw [hxl]
  have HXL := Lib.hid hxl
  have HCD := Lib.hid hcd
  clear h hok hl hp hx hcd hr0 hr1 hxl
  by_cases h0 : cd = 0
  · subst h0
    have HW := Lib.hid (show writeQ m p x time = (changeL (Go.Proofs.YtjglgohchhdkkaaGreatDoor.bodyW m x) ⟨1, [], fileW m p x time⟩, 0) by unfold writeQ; rw [if_pos HCD.out])
    have hcw : IntKind.i64.wrap (m.count + 1) = m.count + 1 := by have h1 := HCT.out.1; have h2 := HCT.out.2; rw [IntKind.wrap_i64]; omega
    go_enter Tryz.func13, Tryz.ntmps13
    go_wp2_with fail
    refine HRF.out.mono ?_
    rintro e w1 ⟨rfl, hB1⟩
    have h1 := H.out.of_below hB1
    have c1 := h1.cell 1
    have f1 := h1.free 1
    simp at c1
    have hc2 := h1.count (m.count + 1)
    have c12 := hc2.cell 1
    simp at c12
    have H2 := Lib.hid hc2
    have HB1 := Lib.hid hB1
    clear h1 hB1 hc2
    go_wp2_with fail
    have HBT := Lib.hid (show Below w.heap.size w w1 from HB1.out)
    obtain ⟨U0, hU0⟩ : ∃ U0, w1.setCell ⟨b, 1, none⟩ (.int .i64 (m.count + 1)) = U0 := ⟨_, rfl⟩
    obtain ⟨U, hU⟩ : ∃ U, U0.alloc (.cells #[.int .i64 (xl : Int), .int .i64 time, .int .i64 (m.count + 1)] 62) = U := ⟨_, rfl⟩
    have HU0 := Lib.hid hU0
    have HU := Lib.hid hU
    have hs0 : U0.heap.size = w1.heap.size := by rw [← hU0]; simp
    have hs1 : U.heap.size = U0.heap.size + 1 := by rw [← hU, World.size_alloc]
    have HZ0 := Lib.hid hs0
    have HZ1 := Lib.hid hs1
    have hBU : Below U0.heap.size U0 U := by rw [← hU]; exact (Below.refl _ _).alloc (Nat.le_refl _) _
    have HBU := Lib.hid hBU
    have hst := stamp_cells U0 (.int .i64 (xl : Int)) (.int .i64 time) (.int .i64 (m.count + 1))
    rw [hU] at hst
    have HST := Lib.hid hst
    have hd0 := H2.out
    rw [hU0] at hd0
    have HDU := Lib.hid (hd0.of_below hBU)
    have hokc : DkOk 300 { m with count := m.count + 1 } := ⟨Nat.le_succ_of_le HOK.out.seen, Nat.le_succ_of_le HOK.out.both, Nat.le_succ_of_le HOK.out.bod, by have := HCT.out.1; show 0 ≤ m.count + 1; omega, by have := HCT.out.2; show m.count + 1 ≤ _; omega, HOK.out.shS, HOK.out.shF, HOK.out.chk, HOK.out.inS, HOK.out.inF, HOK.out.inW, HOK.out.bs⟩
    have HOKC := Lib.hid hokc
    obtain ⟨hxle, hpl⟩ := writeP_small HCD.out
    have HOKB := Lib.hid (HOK.out.bodyW x hxle)
    have HPL := Lib.hid (goodL_len hpl)
    have hlw : LsC U q (bytC x) := (HL.out.keep (w' := U) (fun c hns hc => by
      rw [hBU.block c (by rw [hs0]; exact Nat.lt_of_lt_of_le hc HB1.out.size), ← hU0, Below.heap_setCell _ _ _ _ (fun e2 => hns (by rw [e2]; exact H.out.sb))]
      exact HB1.out.block c hc) (Nat.le_trans HB1.out.size (by rw [← hs0]; exact hBU.size))).at_
    have HCL := Lib.hid (clone8_any x q xl cap U.drew HXL.out (hlw.of_below (Below.refl _ _).drew) HL.out.nil (by have := HL.out.le; rw [HXL.out] at this; exact this) (by have := HXL.out; omega))
    have HST0 := Lib.hid hst
    have HSTK := Lib.hid (fun (u : World) (hb : u.heap[U0.heap.size]? = U.heap[U0.heap.size]?) => three_kept hst hb)
    obtain ⟨s1, s2, s3⟩ := hst
    obtain ⟨r1, r2, r3⟩ := HSTK.out U.drew rfl
    have HBW : Hid (Kq8 S w U) := Lib.hid ⟨by rw [hBU.os, ← hU0]; exact HB1.out.os, by rw [hBU.tape, ← hU0]; exact HB1.out.tape, by rw [hBU.output, ← hU0]; exact HB1.out.output, Nat.le_trans HB1.out.size (by rw [← hs0]; exact hBU.size), fun k hk hn => by
      rw [hBU.block k (by rw [hs0]; exact Nat.lt_of_lt_of_le hk HB1.out.size), ← hU0, Below.heap_setCell _ _ _ _ (fun e2 => hn (by rw [e2]; exact H.out.sb))]
      exact HB1.out.block k hk⟩
    rw [HU0.out, HZ0.out.symm, HU.out]
    clear hokc hxle hpl hlw hBU hU hU0 hd0 c1 f1 c12 hs0 hs1
    go_region_held3 (fun u : World => u.cell? ⟨U0.heap.size, 0, none⟩ = some (.int .i64 (xl : Int)) ∧ u.cell? ⟨U0.heap.size, 1, none⟩ = some (.int .i64 time) ∧ u.cell? ⟨U0.heap.size, 2, none⟩ = some (.int .i64 (m.count + 1))) (first | exact ⟨r1, r2, r3⟩ | exact ⟨z1, z2, z3⟩ | exact ⟨y1, y2, y3⟩ | exact ⟨t1, t2, t3⟩ | go_keep) ((first
      | (go_at_call 34
         refine HCL.out.mono ?_
         rintro e w3 ⟨v, rfl, hO, hB3⟩
         obtain ⟨q3, c3, hv3⟩ := own_slice hO
         subst hv3
         have hB3b : Below U.heap.size U w3 := ((Below.refl _ _).drew).trans (by exact hB3)
         obtain ⟨z1, z2, z3⟩ := HSTK.out w3 (hB3b.block _ (by rw [HZ1.out]; omega))
         have hO2 : w3.ownsRow U.heap.size 5 1 (.slice q3 xl c3) x.length (bytC x) := by rw [HXL.out]; exact hO
         have hD3 := HDU.out.body HOKC.out hB3b x q3 xl c3 hO2
         have HD3 := Lib.hid hD3
         have hWR := writing_any (slPut sl m.bodies.length ⟨q3, xl, c3⟩) (fileW m p x time) w3 (Nat.lt_of_le_of_lt HPL.out (by decide))
         unfold fileW at hWR
         simp only [slPut_at, HXL.out] at hWR
         have HWR := Lib.hid hWR
         have HB3 := Lib.hid hB3b
         clear hO hB3 hB3b hO2 hD3 hWR)
      | (go_at_call 33
         refine HWR.out.mono ?_
         rintro e w4 ⟨rfl, hb1, hb2, hB4⟩
         obtain ⟨y1, y2, y3⟩ := HSTK.out w4 ((hB4.block _ (Nat.lt_of_lt_of_le (by rw [HZ1.out]; omega) HB3.out.size)).trans (HB3.out.block _ (by rw [HZ1.out]; omega)))
         have hD4 : Dp w4 (SN S U.heap.size w4.heap.size) b (Go.Proofs.YtjglgohchhdkkaaGreatDoor.bodyW m x) mv md pv vs (slPut sl m.bodies.length ⟨q3, xl, c3⟩) :=
           (HD3.out.wide hB4).keep (fun _ _ => rfl) (fun k hk => SN.join HB3.out.size hB4.size k hk) (SN.low (HDU.out.low) (Nat.le_trans HB3.out.size hB4.size))
         have hcl : ClsV w4 (SN S U.heap.size w4.heap.size) (slPut sl m.bodies.length ⟨q3, xl, c3⟩) ⟨1, [], fileW m p x time⟩ (.func (.func 47) #[] #[.pointer (some ⟨w3.heap.size, 0, none⟩), .pointer (some ⟨w3.heap.size + 1, 0, none⟩)]) :=
           .write _ _ rfl rfl hb1 (by
             have e : fileW m p x time = ⟨p, m.bodies.length, (xl : Int), time, m.count + 1⟩ := by unfold fileW; rw [HXL.out]
             show BoxF _ _ _ (fileW m p x time)
             rw [e]
             exact hb2) (.inr ⟨HB3.out.size, hb1.lt⟩) (.inr ⟨Nat.le_succ_of_le HB3.out.size, hb2.lt⟩)
         have HDO := Lib.hid (do_any hD4 HOKB.out hcl (Nat.lt_of_le_of_lt HPL.out (by decide)) (fun _ => by
           show (x.length : Int) = (((m.bodies ++ [x]).getD m.bodies.length []).length : Int)
           rw [List.getD_eq_getElem?_getD, List.getElem?_append_right (Nat.le_refl _)]
           simp))
         have HB4 := Lib.hid hB4
         clear hb1 hb2 hB4 hD4 hcl)
      | (go_at_call 32
         refine HDO.out.mono ?_
         rintro e w5 ⟨rfl, hd, hk⟩
         have hns : ¬ SN S U.heap.size w4.heap.size U0.heap.size := fun e => by
           rcases e with e | e
           · have h1 := H.out.low _ e
             have h2 := HB1.out.size
             have h3 := HZ0.out
             omega
           · have := HZ1.out
             omega
         obtain ⟨t1, t2, t3⟩ := HSTK.out w5 ((hk.block _ (Nat.lt_of_lt_of_le (by rw [HZ1.out]; omega) (Nat.le_trans HB3.out.size HB4.out.size)) hns).trans ((HB4.out.block _ (Nat.lt_of_lt_of_le (by rw [HZ1.out]; omega) HB3.out.size)).trans (HB3.out.block _ (by rw [HZ1.out]; omega))))
         have HFIN : Hid (DPost S b w (changeL (Go.Proofs.YtjglgohchhdkkaaGreatDoor.bodyW m x) ⟨1, [], fileW m p x time⟩) w5) := Lib.hid (by
           obtain ⟨pv2, vs2, hd⟩ := hd
           have hB34 : Below U.heap.size U w4 := HB3.out.trans (HB4.out.mono HB3.out.size)
           have hp := DPost.after hB34 HDU.out.low (m := changeL (Go.Proofs.YtjglgohchhdkkaaGreatDoor.bodyW m x) ⟨1, [], fileW m p x time⟩) ⟨⟨_, _, _, _, _, hd⟩, hk⟩
           obtain ⟨⟨a1, a2, a3, a4, a5, hd5⟩, hk5⟩ := hp
           refine ⟨⟨a1, a2, a3, a4, a5, hd5.keep (fun _ _ => rfl) (fun i hi => ?_) (SN.low H.out.low (Nat.le_trans HBW.out.size hk5.size))⟩, ?_⟩
           · rcases hi with e | e
             · exact .inl e
             · exact .inr ⟨Nat.le_trans HBW.out.size e.1, e.2⟩
           · exact ⟨hk5.os.trans HBW.out.os, hk5.tape.trans HBW.out.tape, hk5.output.trans HBW.out.output, Nat.le_trans HBW.out.size hk5.size, fun i hi hn => (hk5.block i (Nat.lt_of_lt_of_le hi HBW.out.size) hn).trans (HBW.out.block i hi hn)⟩)
         clear hd hk hns)
      ))
    clear s1 s2 s3 r1 r2 r3 z1 z2 z3 y1 y2 y3 t1 t2 t3
    go_wp2
    go_ret
    rw [HW.out]
    exact ⟨rfl, HFIN.out⟩
  · have hne : ((cd : Int) != 0) = true := by simp; omega
    have HW := Lib.hid (show writeQ m p x time = (m, cd) by unfold writeQ; rw [HCD.out, if_neg h0])
    clear h0
    go_enter Tryz.func13, Tryz.ntmps13
    go_wp2_with fail
    refine HRF.out.mono ?_
    rintro e w1 ⟨rfl, hB1⟩
    have HB1 := Lib.hid hB1
    clear hB1
    go_wp2
    go_ret
    rw [HW.out]
    exact ⟨rfl, DPost.same H.out HB1.out⟩
end
end Go.Proofs.YtjglgohchhdkkaaGreatDoor
/- Paths of the program's disk: the map's keys, sorted. -/
namespace Go.Proofs.YtjglgohchhdkkaaGreatDoor
open Go Go.RowKit Go.WideShapes
open Go.WideElems (rd rg rd_mk rg_of)
open Go.WideMaps (keyOf_string_mk)

def kbS : Value → S8
  | .string s => s.data.toList
  | _ => []
theorem mkS_data (p : S8) : (mkS p).data.toList = p := by unfold mkS; simp
theorem kbS_mk (p : S8) : kbS (.string (mkS p)) = p := mkS_data p
def unitR (_ : Value) : Option (DataW Unit × List MemPlace) := some (.nil, [])
theorem MpB.owns {w : World} {b : Nat} {l : List (S8 × Value)} (h : MpB w b l) (hk : ∀ x ∈ l, x.1.length ≤ 1000) (hn : l.length ≤ 100000) :
    ∃ D : DataW Unit, w.ownsMap Tryz.prog 9 unitR b l.length D ∧ (strKeys D).Perm (l.map (·.1)) ∧ Maps.size D = l.length := by
  obtain ⟨es, clock, hb, r⟩ := h
  have hsz := r.size
  have hrd : ∀ x ∈ es.toList, rd Tryz.prog 9 unitR x = some (.string (kbS x.key), .nil) := fun x hx => by
    obtain ⟨p, v, hm, e1, e2⟩ := r.mem hx
    have hl : p.length ≤ 1000 := hk _ hm
    have hkey := keyOf_string_mk (P := Tryz.prog) strT (s := mkS p) (by rw [mkS_size]; simp only [maxLen]; omega)
    rw [mkS_data] at hkey
    obtain ⟨key, val, born⟩ := x
    dsimp only at e1
    subst e1
    rw [kbS_mk]
    exact rd_mk (R := unitR) (yv := (DataW.nil, [])) hkey rfl
  have hrg : es.toList.map (rg Tryz.prog 9 unitR) = es.toList.map fun x => (.string (kbS x.key), .nil) := List.map_congr_left fun x hx => rg_of (hrd x hx)
  refine ⟨_, ⟨es, clock, hb, ⟨by simp only [maxLen]; omega, r.st, fun x hx => ⟨_, hrd x hx⟩⟩, by omega, rfl⟩, ?_, ?_⟩
  · show ((List.foldr DataW.insert [] _).map fun p => _root_.Go.strOf p.1).Perm _
    refine ((sorted_perm _).map _).trans ?_
    rw [hrg, List.map_map]
    have e1 : (es.toList.map ((fun p : Lit × DataW Unit => _root_.Go.strOf p.1) ∘ fun x : MapEntry => (Lit.string (kbS x.key), DataW.nil))) = (es.toList.map kvE).map fun x => kbS x.1 := by
      rw [List.map_map]
      rfl
    rw [e1]
    refine (r.kv.map _).trans (List.Perm.of_eq ?_)
    rw [List.map_map]
    exact List.map_congr_left fun x _ => kbS_mk x.1
  · show (List.foldr DataW.insert [] _).length = _
    rw [length_sorted, List.length_map, ← hsz]
    simp
theorem elS : ElK 66 9 (.string ⟨#[]⟩) 1 16 := ⟨by kernel_rfl, by kernel_rfl, rfl, by decide, by decide⟩
theorem encStr_mk (l : List S8) : l.map encStr = l.map fun s => .string (mkS s) := List.map_congr_left fun s _ => by show Value.string ⟨s.toArray⟩ = _; rw [mkS_lit]
section
variable {w w' : World} {S S' : Nat → Prop} {b : Nat} {m : Dk} {mv md : Nat} {pv : Value} {vs : List Value} {sl : Nat → Hn}
theorem sort_strict {l : List S8} (hn : l.Nodup) : ((l.mergeSort fun x y => decide (x ≤ y))).Pairwise fun x y => decide (y ≤ x) = false := by
  have tr : ∀ a b c : S8, (fun x y : S8 => decide (x ≤ y)) a b = true → (fun x y : S8 => decide (x ≤ y)) b c = true → (fun x y : S8 => decide (x ≤ y)) a c = true := fun a b c h1 h2 => by simp only [decide_eq_true_eq] at *; exact List.le_trans h1 h2
  have to : ∀ a b : S8, ((fun x y : S8 => decide (x ≤ y)) a b || (fun x y : S8 => decide (x ≤ y)) b a) = true := fun a b => by simp only [Bool.or_eq_true, decide_eq_true_eq]; exact List.le_total a b
  have h1 := List.pairwise_mergeSort tr to l
  have h2 : (l.mergeSort fun x y => decide (x ≤ y)).Nodup := ((List.mergeSort_perm l _).nodup_iff).2 hn
  refine (h1.and h2).imp fun {x y} h => ?_
  rw [decide_eq_false_iff_not]
  intro h3
  have h4 : x ≤ y := by simpa using h.1
  exact h.2 (List.le_antisymm h4 h3)
set_option maxRecDepth 100000 in
set_option maxHeartbeats 4000000 in
theorem paths_any (h : Dp w S b m mv md pv vs sl) (hok : DkOk 300 m) : Calls Tryz.prog 25 #[.pointer (some ⟨b, 0, none⟩)] w fun e w' => ∃ (v : Value) (ls : List S8), e = .returned v ∧ ls.Perm (m.seen.map Fl.p) ∧ ls.Pairwise (fun x y => decide (y ≤ x) = false) ∧ w'.ownsRow w.heap.size 9 1 v ls.length (ls.map fun s => .string (mkS s)) ∧ Below w.heap.size w w' := by
  have c2 := h.cell 2
  simp at c2
  obtain ⟨D, hown, hperm, hsize⟩ := h.vis.owns (fun x hx => by
    obtain ⟨f, hf, rfl⟩ := List.mem_map.1 hx
    have := (shortF_iff.1 hok.shS) f hf
    exact Nat.le_trans this (by decide)) (by rw [List.length_map]; have := hok.seen; omega)
  rw [List.length_map] at hsize hown
  have e0 : (m.seen.map (entV sl)).map (·.1) = m.seen.map Fl.p := by rw [List.map_map]; rfl
  rw [e0] at hperm
  have HPM := Lib.hid hperm
  have HON := Lib.hid h.vis.once
  have HKY := Lib.hid (callsIn_wide.1 (Tryz.maps_Keys_44 (some mv) w))
  have hsn := hok.seen
  have HST := Lib.hid (callsIn_wide.1 (Tryz.slices_Sorted_keys_43_44 mv m.seen.length D unitR w hown (by rw [hsize]; simp only [maxLen]; omega) (by rw [hsize]; omega)))
  have HSZ := Lib.hid (World.size_alloc w (.cells #[.map (some mv)] 48))
  have HB := Lib.hid ((Below.refl w.heap.size w).alloc (Nat.le_refl _) (.cells #[.map (some mv)] 48))
  clear h hok hown hperm hsize hsn e0
  go_enter Tryz.func25, Tryz.ntmps25
  go_wp2_with fail
  refine HKY.out.mono ?_
  rintro e w2 ⟨rfl, rfl⟩
  go_wp2_with fail
  refine HST.out.mono ?_
  rintro e w3 ⟨v, ss, rfl, hp, hrow, _, hB⟩
  have HX := Lib.hid (And.intro hp (And.intro hrow hB))
  clear hp hrow hB HKY HST
  go_wp2
  go_ret
  obtain ⟨hp, hrow, hB⟩ := HX.out
  have hpp := hp.trans HPM.out
  refine ⟨v, ss.mergeSort (fun x y => decide (x ≤ y)), rfl, (List.mergeSort_perm ss _).trans hpp, sort_strict ((hpp.nodup_iff).2 HON.out), ?_, HB.out.trans (hB.mono HB.out.size)⟩
  rw [(List.mergeSort_perm ss _).length_eq, ← encStr_mk]
  exact own_lower hrow HB.out.size
end
end Go.Proofs.YtjglgohchhdkkaaGreatDoor
/- The program's disk as the statements' walks take it; a fixed fact. -/
namespace Go.Proofs.YtjglgohchhdkkaaGreatDoor
open Go Go.RowKit

/-- Block b is the disk m; its memory is S. -/
def Dsk (w : World) (S : Nat → Prop) (b : Nat) (m : Dk) : Prop := ∃ mv md pv vs sl, Dp w S b m mv md pv vs sl
/-- Behind a call. -/
def Nxt (S : Nat → Prop) (b : Nat) (w : World) (m : Dk) (w' : World) : Prop := Dsk w' (SN S w.heap.size w'.heap.size) b m ∧ Kq8 S w w'
section
variable {w w' : World} {S : Nat → Prop} {b : Nat} {m : Dk}
theorem Dsk.of_below (h : Dsk w S b m) (hB : Below w.heap.size w w') : Dsk w' S b m := by
  obtain ⟨mv, md, pv, vs, sl, h⟩ := h
  exact ⟨mv, md, pv, vs, sl, h.of_below hB⟩
theorem Dsk.low (h : Dsk w S b m) : ∀ k, S k → k < w.heap.size := by
  obtain ⟨mv, md, pv, vs, sl, h⟩ := h
  exact h.low
/-- Another disk's call leaves it alone. -/
theorem Dsk.apart {S2 : Nat → Prop} (h : Dsk w S b m) (hk : Kq8 S2 w w') (ha : ∀ k, S k → ¬ S2 k) : Dsk w' S b m := by
  obtain ⟨mv, md, pv, vs, sl, h⟩ := h
  exact ⟨mv, md, pv, vs, sl, h.keep (fun k hs => hk.block k (h.low k hs) (ha k hs)) (fun _ x => x) (fun k hs => Nat.lt_of_lt_of_le (h.low k hs) hk.size)⟩
theorem dnew_any (room : Int) (w : World) : Calls Tryz.prog 7 #[.int .i64 room] w fun e w' => ∃ b, e = .returned (.pointer (some ⟨b, 0, none⟩)) ∧ Dsk w' (fun k => w.heap.size ≤ k ∧ k < w'.heap.size) b ⟨clampL room, 0, [], [], [], []⟩ ∧ Below w.heap.size w w' :=
  (new_any room w).mono fun e w' ⟨h1, h2, h3⟩ => ⟨_, h1, ⟨_, _, _, _, _, h2⟩, h3⟩
theorem dwrite_any (h : Dsk w S b m) (hok : DkOk 299 m) (h64 : m.seen.length ≤ 64) (hr0 : 0 ≤ m.room) (hr1 : m.room ≤ 1048576) (p x : S8) (q : Option Addr) (cap : Nat) (time : Int) (hp : p.length ≤ 1000) (hx : x.length ≤ 400000) (hl : LsG (fun k => ¬ S k) w q x.length cap 1 (bytC x)) : Calls Tryz.prog 13 #[.pointer (some ⟨b, 0, none⟩), .string (mkS p), .slice q x.length cap, .int .i64 time] w fun e w' => e = .returned (.int .i64 ((writeL m p x time).2 : Int)) ∧ Nxt S b w (writeL m p x time).1 w' := by
  obtain ⟨mv, md, pv, vs, sl, h⟩ := h
  rw [← writeQ_eq m p x time h64]
  exact write_any h hok hr0 hr1 p x q cap time hp hx hl
theorem drename_any (h : Dsk w S b m) (hok : DkOk 300 m) (p q : S8) (hp : p.length ≤ 1000) (hq : q.length ≤ 1000) : Calls Tryz.prog 17 #[.pointer (some ⟨b, 0, none⟩), .string (mkS p), .string (mkS q)] w fun e w' => e = .returned (.int .i64 ((renameL m p q).2 : Int)) ∧ Nxt S b w (renameL m p q).1 w' := by
  obtain ⟨mv, md, pv, vs, sl, h⟩ := h
  exact rename_any h hok p q hp hq
theorem dremove_any (h : Dsk w S b m) (hok : DkOk 300 m) (p : S8) (hp : p.length ≤ 1000) : Calls Tryz.prog 19 #[.pointer (some ⟨b, 0, none⟩), .string (mkS p)] w fun e w' => e = .returned (.int .i64 ((removeL m p).2 : Int)) ∧ Nxt S b w (removeL m p).1 w' := by
  obtain ⟨mv, md, pv, vs, sl, h⟩ := h
  exact remove_any h hok p hp
theorem dsync_any (h : Dsk w S b m) : Calls Tryz.prog 10 #[.pointer (some ⟨b, 0, none⟩)] w fun e w' => e = .returned (.tuple #[]) ∧ Nxt S b w (syncL m) w' := by
  obtain ⟨mv, md, pv, vs, sl, h⟩ := h
  exact sync_any h
theorem dcrash_any (h : Dsk w S b m) (hok : DkOk 300 m) (ks : List Bool) (q : Option Addr) (cap : Nat) (hkl : ks.length ≤ 1000) (hl : LsG (fun k => ¬ S k) w q ks.length cap 1 (ks.map Value.bool)) : Calls Tryz.prog 12 #[.pointer (some ⟨b, 0, none⟩), .slice q ks.length cap] w fun e w' => e = .returned (.tuple #[]) ∧ Nxt S b w (crashL m ks) w' := by
  obtain ⟨mv, md, pv, vs, sl, h⟩ := h
  exact crash_any h hok ks q cap hkl hl
theorem drot_any (h : Dsk w S b m) (hok : DkOk 300 m) (p : S8) (at_ : Int) (mask : UInt8) : Calls Tryz.prog 22 #[.pointer (some ⟨b, 0, none⟩), .string (mkS p), .int .i64 at_, .int .u8 (mask.toNat : Int)] w fun e w' => e = .returned (.int .i64 ((rotL m p at_ mask).2 : Int)) ∧ Nxt S b w (rotL m p at_ mask).1 w' := by
  obtain ⟨mv, md, pv, vs, sl, h⟩ := h
  exact rot_any h hok p at_ mask
theorem dread_any (h : Dsk w S b m) (hok : DkOk 300 m) (p : S8) : Calls Tryz.prog 14 #[.pointer (some ⟨b, 0, none⟩), .string (mkS p)] w fun e w' => ∃ v, e = .returned (.tuple #[v, .int .i64 (readN m p)]) ∧ w'.ownsRow w.heap.size 5 1 v ((readL m p).getD []).length (bytC ((readL m p).getD [])) ∧ Below w.heap.size w w' := by
  obtain ⟨mv, md, pv, vs, sl, h⟩ := h
  exact read_any h hok p
theorem dstat_any (h : Dsk w S b m) (p : S8) : Calls Tryz.prog 23 #[.pointer (some ⟨b, 0, none⟩), .string (mkS p)] w fun e w' => e = .returned (stampV (fileL m p)) ∧ Below w.heap.size w w' := by
  obtain ⟨mv, md, pv, vs, sl, h⟩ := h
  exact stat_any h p
theorem dpaths_any (h : Dsk w S b m) (hok : DkOk 300 m) : Calls Tryz.prog 25 #[.pointer (some ⟨b, 0, none⟩)] w fun e w' => ∃ (v : Value) (ls : List S8), e = .returned v ∧ ls.Perm (m.seen.map Fl.p) ∧ ls.Pairwise (fun x y => decide (y ≤ x) = false) ∧ w'.ownsRow w.heap.size 9 1 v ls.length (ls.map fun s => .string (mkS s)) ∧ Below w.heap.size w w' := by
  obtain ⟨mv, md, pv, vs, sl, h⟩ := h
  exact paths_any h hok
theorem dused_any (h : Dsk w S b m) (hok : DkOk 300 m) : Calls Tryz.prog 26 #[.pointer (some ⟨b, 0, none⟩)] w fun e w' => e = .returned (.int .i64 (usedL m : Int)) ∧ Below w.heap.size w w' := by
  obtain ⟨mv, md, pv, vs, sl, h⟩ := h
  exact used_any h hok
theorem droom_any (h : Dsk w S b m) : Calls Tryz.prog 28 #[.pointer (some ⟨b, 0, none⟩)] w fun e w' => e = .returned (.int .i64 m.room) ∧ w = w' := by
  obtain ⟨mv, md, pv, vs, sl, h⟩ := h
  exact room_any h
theorem dwaiting_any (h : Dsk w S b m) : Calls Tryz.prog 29 #[.pointer (some ⟨b, 0, none⟩)] w fun e w' => e = .returned (.int .i64 (m.waits.length : Int)) ∧ w = w' := by
  obtain ⟨mv, md, pv, vs, sl, h⟩ := h
  exact waiting_any h
theorem Dsk.sizes (h : Dsk w S b m) : SzOk m := by
  obtain ⟨mv, md, pv, vs, sl, h⟩ := h
  exact h.sz
theorem Dsk.once (h : Dsk w S b m) : OnceF m.seen := by
  obtain ⟨mv, md, pv, vs, sl, h⟩ := h
  exact h.vis.once
end
/-- Bytes as a string. -/
theorem conv8 (w : World) (p : Option Addr) (l : S8) (n cap : Nat) (h : LsC w p (bytC l)) (hl : l.length = n) (hp : p = none → cap = 0) :
    (convert 32 9 (.slice p n cap)).run Tryz.prog w = .ok (.string (mkS l)) w := by
  subst hl
  cases p with
  | none =>
    have : l = [] := by
      cases l with
      | nil => rfl
      | cons x r => obtain ⟨c, o, e, _⟩ := h 0 (by rw [bytC_len]; simp); cases e
    subst this
    show (convert 32 9 (.slice none 0 cap)).run Tryz.prog w = _
    rw [run_convert_bytes_string (P := Tryz.prog) w 32 9 5 none 0 cap elB.und (by kernel_rfl) (by kernel_rfl), ← mkS_lit []]
    obtain rfl := hp rfl
    rfl
  | some a =>
    have := run_convert_bytes_back (P := Tryz.prog) w 32 9 5 a cap l elB.und (by kernel_rfl) (by kernel_rfl) (fun j hj => by
      obtain ⟨c', o', e, hc⟩ := h j (by rw [bytC_len]; exact hj)
      injection e with e
      subst e
      rw [Addr.add_mid, hc, bytC_get l j hj, chr_eq hj])
    rw [mkS_lit] at this
    exact this
theorem own_conv {w : World} {base n : Nat} {v : Value} {l : S8} (h : w.ownsRow base 5 1 v n (bytC l)) (hn : n = l.length) : ∃ q c, v = .slice q n c ∧ (convert 32 9 (.slice q n c)).run Tryz.prog w = .ok (.string (mkS l)) w := by
  obtain ⟨q, c, e, h1, h2, _⟩ := own_shape h
  exact ⟨q, c, e, conv8 w q l n c h1 hn.symm h2⟩
theorem xyC (w : World) : (Instr.buildSlice 32 2 #[(0, .int .u8 120), (1, .int .u8 121)]).run Tryz.prog w = .ok (.slice (some ⟨w.heap.size, 0, none⟩) 2 2) (w.alloc (.cells #[.int .u8 120, .int .u8 121] 5)) := by kernel_rfl
theorem xyK (w : World) : (convert 32 32 (.slice (some ⟨w.heap.size, 0, none⟩) 2 2)).run Tryz.prog (w.alloc (.cells #[.int .u8 120, .int .u8 121] 5)) = .ok (.slice (some ⟨w.heap.size, 0, none⟩) 2 2) (w.alloc (.cells #[.int .u8 120, .int .u8 121] 5 (2, 3))) :=
  Lib.run_convert_bytes_const (P := Tryz.prog) w 32 5 #[.int .u8 120, .int .u8 121] 2 2 elB.und (by kernel_rfl)
def dk9 : Dk := ⟨9, 0, [], [], [], []⟩
def dkA : Dk := ⟨9, 1, [[120, 121]], [⟨[97], 0, 2, 3, 1⟩], [], [⟨1, [], ⟨[97], 0, 2, 3, 1⟩⟩]⟩
def dkC : Dk := ⟨9, 1, [[120, 121]], [], [], []⟩
theorem aw_clamp : clampL 9 = 9 := by decide
theorem aw_good : goodL [97] = true := by decide +kernel
theorem aw_write : writeL dk9 [97] [120, 121] 3 = (dkA, 0) := by
  have h1 : writeL dk9 [97] [120, 121] 3 = if !goodL [97] then (dk9, 7) else (dkA, 0) := by rfl
  rw [h1, aw_good]
  rfl
theorem aw_read : readL dkA [97] = some [120, 121] := by rfl
theorem aw_crash : crashL dkA [] = dkC := by rfl
theorem aw_readC : readL dkC [97] = none := by rfl
theorem dk9_ok : DkOk 0 dk9 := DkOk.zero 9
theorem dkA_ok : DkOk 1 dkA := by
  have := dk9_ok.write [97] [120, 121] 3
  rw [aw_write] at this
  exact this
theorem dkC_ok : DkOk 1 dkC := by
  have := dkA_ok.crash []
  rw [aw_crash] at this
  exact this
end Go.Proofs.YtjglgohchhdkkaaGreatDoor
/- awake. -/
namespace Go.Proofs.YtjglgohchhdkkaaGreatDoor
open Go Go.RowKit

section
variable {w w' w2 : World} {S : Nat → Prop} {N : Nat}
theorem Kq8.below (h : Kq8 S w w') (hS : ∀ k, S k → N ≤ k) (hN : N ≤ w.heap.size) : Below N w w' :=
  ⟨h.os, h.tape, h.output, h.size, fun k hk => h.block k (Nat.lt_of_lt_of_le hk hN) (fun x => by have := hS k x; omega)⟩
theorem SN.from (hS : ∀ k, S k → N ≤ k) {M K : Nat} (hM : N ≤ M) : ∀ k, SN S M K k → N ≤ k := fun k hk => by
  rcases hk with x | x
  · exact hS k x
  · exact Nat.le_trans hM x.1
theorem LsG.none0 (G : Nat → Prop) (w : World) (k : Nat) : LsG G w none 0 0 k [] := ⟨LsC.nil _ _, by simp, (fun c o e _ => by cases e), fun _ => rfl, Nat.le_refl _⟩
/-- A row of the call's own is left alone by a disk's call. -/
theorem own_kq {base E k n : Nat} {v : Value} {cs : List Value} (h : w.ownsRow base E k v n cs) (hk : Kq8 S w w') (hS : ∀ k, S k → k < base) : w'.ownsRow base E k v n cs :=
  own_keep h fun g hg => hk.block g (h.lt g hg).2 (fun x => by have h1 := hS g x; have h2 := (h.lt g hg).1; omega)
end
set_option maxRecDepth 100000 in
set_option maxHeartbeats 8000000 in
theorem awake8 (w : World) : Calls Tryz.prog 5 #[] w fun e w' => e = .returned (.bool true) ∧ Below w.heap.size w w' := by
  have HN := Lib.hid (dnew_any 9 w)
  rw [aw_clamp] at HN
  go_enter Tryz.func5, Tryz.ntmps5
  go_wp2_with fail
  refine HN.out.mono ?_
  rintro e w1 ⟨b, rfl, hD, hB⟩
  have k1 := xyK w1
  have hBa : Below w1.heap.size w1 (w1.alloc (.cells #[.int .u8 120, .int .u8 121] 5 (2, 3))) := (Below.refl _ _).alloc (Nat.le_refl _) _
  have hD2 := hD.of_below hBa
  have hls : LsG (fun k => ¬ (w.heap.size ≤ k ∧ k < w1.heap.size)) (w1.alloc (.cells #[.int .u8 120, .int .u8 121] 5 (2, 3))) (some ⟨w1.heap.size, 0, none⟩) 2 2 1 (bytC [120, 121]) := by
    have hn := World.alloc_heap_new w1 (.cells #[.int .u8 120, .int .u8 121] 5 (2, 3))
    refine ⟨fun j hj => ⟨_, _, rfl, ?_⟩, rfl, fun c o e _ => ?_, (fun e => by cases e), Nat.le_refl _⟩
    · unfold World.cell?
      rw [hn]
      simp [bytC]
    · injection e with e
      injection e with e1 e2
      rw [← e1]
      exact ⟨fun x => by omega, by rw [World.size_alloc]; omega⟩
  have hWR := dwrite_any hD2 (dk9_ok.mono (by decide)) (by decide) (by decide) (by decide) [97] [120, 121] _ 2 3 (by decide) (by decide) hls
  have e9 : writeL ⟨9, 0, [], [], [], []⟩ [97] [120, 121] 3 = (dkA, 0) := aw_write
  rw [e9] at hWR
  have HWR := Lib.hid hWR
  have HB := Lib.hid hB
  have HBA := Lib.hid hBa
  have HSZ : Hid ((w1.alloc (.cells #[.int .u8 120, .int .u8 121] 5 (2, 3))).heap.size = w1.heap.size + 1) := Lib.hid (World.size_alloc _ _)
  generalize hW2 : w1.alloc (.cells #[.int .u8 120, .int .u8 121] 5 (2, 3)) = W2 at *
  have ha : (ByteArray.mk #[97]) = mkS [97] := mkS_lit [97]
  clear hD hB hBa hD2 hls hWR e9 HN
  go_wp2_with fail
  refine HWR.out.mono ?_
  rintro e w3 ⟨rfl, hD3, hk3⟩
  have hS1 : ∀ k, (fun k => w.heap.size ≤ k ∧ k < w1.heap.size) k → w.heap.size ≤ k := fun k hk => hk.1
  have hB2 : Below w.heap.size w W2 := HB.out.trans (HBA.out.mono HB.out.size)
  have hB3 : Below w.heap.size w w3 := hB2.trans (hk3.below hS1 hB2.size)
  have hS3 := SN.from hS1 hB2.size (K := w3.heap.size)
  have HRD := Lib.hid (dread_any hD3 (dkA_ok.mono (by decide)) [97])
  rw [show readN dkA [97] = 0 from rfl, aw_read] at HRD
  have HD3 := Lib.hid hD3
  have HB3 := Lib.hid hB3
  have HS3 := Lib.hid hS3
  clear hD3 hk3 hB3 hS3 hS1 hB2 HWR k1
  go_wp2_with fail
  refine HRD.out.mono ?_
  rintro e w4 ⟨v, rfl, hO, hB4⟩
  have hD4 := HD3.out.of_below hB4
  have HCR := Lib.hid (dcrash_any hD4 (dkA_ok.mono (by decide)) [] none 0 (by decide) (LsG.none0 _ _ _))
  rw [aw_crash] at HCR
  have HB4 := Lib.hid (HB3.out.trans (hB4.mono HB3.out.size))
  have HO := Lib.hid hO
  have HLO := Lib.hid HD3.out.low
  have HBB := Lib.hid hB4
  clear hO hB4 hD4 HRD
  go_wp2_with fail
  refine HCR.out.mono ?_
  rintro e w5 ⟨rfl, hD5, hk5⟩
  have hO5 := own_kq HO.out hk5 HLO.out
  have hB5 := HB4.out.trans (hk5.below HS3.out HB4.out.size)
  have HRE := Lib.hid (dread_any hD5 (dkC_ok.mono (by decide)) [97])
  rw [show readN dkC [97] = 8 from rfl, aw_readC] at HRE
  have HO5 := Lib.hid hO5
  have HB5 := Lib.hid hB5
  clear hD5 hk5 hO5 hB5 HCR
  go_wp2_with fail
  refine HRE.out.mono ?_
  rintro e w6 ⟨v2, rfl, hO2, hB6⟩
  obtain ⟨q, c, rfl, hcv⟩ := own_conv (own_below HO5.out hB6) rfl
  have HB6 := Lib.hid (HB5.out.trans (hB6.mono HB5.out.size))
  clear hO2 hB6 HRE
  have hcv2 : (convert 32 9 (.slice q 2 c)).run Tryz.prog w6 = .ok (.string (mkS [120, 121])) w6 := hcv
  clear hcv
  go_wp2
  go_ret
  exact ⟨rfl, HB6.out⟩
end Go.Proofs.YtjglgohchhdkkaaGreatDoor
/- Acts as an argument; short. -/
namespace Go.Proofs.YtjglgohchhdkkaaGreatDoor
open Go Go.RowKit

theorem i64t (x : Nat) (h : x < 9223372036854775807) : IntKind.i64.wrap ((x : Int) + 1) = (x : Int) + 1 := by rw [IntKind.wrap_i64]; omega
structure Ac where
  kind : Nat
  path : S8
  to_ : S8
  b : S8
  n : Int
  ks : List Bool
structure AcH where
  bq : Option Addr
  bc : Nat
  kp : Option Addr
  kc : Nat
def encA (x : Ac × AcH) : List Value := [.int .u8 (x.1.kind : Int), .string (mkS x.1.path), .string (mkS x.1.to_), .slice x.2.bq x.1.b.length x.2.bc, .int .i64 x.1.n, .slice x.2.kp x.1.ks.length x.2.kc]
theorem encA_len (x : Ac × AcH) : (encA x).length = 6 := rfl
/-- A list of acts lies where a slice begins, and what its acts point to. -/
structure AcsL (w : World) (p : Option Addr) (n cap : Nat) (l : List (Ac × AcH)) : Prop where
  at_ : LsC w p (l.flatMap encA)
  len : l.length = n
  byt : ∀ x ∈ l, LsG (fun _ => True) w x.2.bq x.1.b.length x.2.bc 1 (bytC x.1.b)
  kep : ∀ x ∈ l, LsG (fun _ => True) w x.2.kp x.1.ks.length x.2.kc 1 (x.1.ks.map Value.bool)
theorem AcsL.of_below {w w' : World} {p : Option Addr} {n cap : Nat} {l : List (Ac × AcH)} (h : AcsL w p n cap l) (hB : Below w.heap.size w w') : AcsL w' p n cap l :=
  ⟨h.at_.of_below hB, h.len, fun x hx => (h.byt x hx).of_below hB, fun x hx => (h.kep x hx).of_below hB⟩
theorem AcsL.cell {w : World} {p : Option Addr} {n cap : Nat} {l : List (Ac × AcH)} (h : AcsL w p n cap l) {i j : Nat} (hi : i < l.length) {u : Value} (hu : (encA l[i])[j]? = some u) : ∃ c o, p = some ⟨c, o, none⟩ ∧ c < w.heap.size ∧ w.cell? ⟨c, o + (i * 6 + j), none⟩ = some u := by
  have hj : j < 6 := by rw [List.getElem?_eq_some_iff] at hu; exact hu.1
  have hg := flat_get encA 6 encA_len l i j hi hj
  exact h.at_.cell (hg.trans hu)
def shortA (x : Ac × AcH) : Bool := !(decide (200 < x.1.path.length) || decide (200 < x.1.to_.length) || decide (300000 < x.1.b.length) || decide (200 < x.1.ks.length))
def shortL (l : List (Ac × AcH)) : Bool := l.all shortA && decide (l.length ≤ 40)
theorem shortL_no {l : List (Ac × AcH)} {i : Nat} (hi : i < l.length) (h : shortA l[i] = false) : shortL l = false := by
  unfold shortL
  have : l.all shortA = false := by
    rw [List.all_eq_false]
    exact ⟨_, List.getElem_mem hi, by rw [h]; decide⟩
  rw [this]
  rfl
theorem shortL_yes {l : List (Ac × AcH)} (h : ∀ i (hi : i < l.length), shortA l[i] = true) : shortL l = decide (l.length ≤ 40) := by
  unfold shortL
  have : l.all shortA = true := by
    rw [List.all_eq_true]
    intro x hx
    obtain ⟨i, hi, rfl⟩ := List.getElem_of_mem hx
    exact h i hi
  rw [this]
  rfl
set_option maxHeartbeats 4000000 in
theorem short_any (l : List (Ac × AcH)) (p : Option Addr) (n cap : Nat) (hn : n < 9223372036854775808) (hz : ∀ x ∈ l, x.1.path.length < 9223372036854775808 ∧ x.1.to_.length < 9223372036854775808 ∧ x.1.b.length < 9223372036854775808 ∧ x.1.ks.length < 9223372036854775808) (w : World) (h : AcsL w p n cap l) :
    Calls Tryz.prog 6 #[.slice p n cap] w fun e w' => e = .returned (.bool (shortL l)) ∧ Below w.heap.size w w' := by
  have H := Lib.hid h
  have HZ := Lib.hid hz
  clear h hz
  obtain ⟨r, hr⟩ : ∃ r, shortL l = r := ⟨_, rfl⟩
  rw [hr]
  have HR := Lib.hid hr
  clear hr
  go_enter Tryz.func6, Tryz.ntmps6
  go_wp2
  go_loopw [4, 7] (fun v4 v7 wr => ∃ k : Nat, k ≤ n ∧ v7 = .int .i64 k ∧ (∀ i (hi : i < l.length), i < k → shortA l[i] = true) ∧ Below w.heap.size w wr) (fun v4 v7 _ => n - (intOf v7).toNat)
  case atStart => exact ⟨0, Nat.zero_le _, rfl, fun i _ hi => absurd hi (by omega), Below.refl _ _⟩
  case round =>
    obtain ⟨k, hk, rfl, hall, hB⟩ := hrel
    have HB := Lib.hid hB
    have HALL := Lib.hid hall
    by_cases hlt : k < n
    · have z1 : (k : Int) < (n : Int) := by omega
      have z2 : decide ((k : Int) < (n : Int)) = true := decide_eq_true z1
      have z3 : (0 : Int) ≤ (k : Int) := by omega
      have hw := i64t k (by omega)
      have hkl : k < l.length := by rw [H.out.len]; exact hlt
      have H2 := Lib.hid (H.out.of_below hB)
      obtain ⟨x, hx⟩ : ∃ x, l[k] = x := ⟨_, rfl⟩
      have hzx : x.1.path.length < 9223372036854775808 ∧ x.1.to_.length < 9223372036854775808 ∧ x.1.b.length < 9223372036854775808 ∧ x.1.ks.length < 9223372036854775808 := by rw [← hx]; exact HZ.out _ (List.getElem_mem hkl)
      have HNO := Lib.hid (fun (e : shortA x = false) => (HR.out.symm.trans (shortL_no hkl (by rw [hx]; exact e)) : r = false))
      have HYS := Lib.hid (fun (e : shortA x = true) => (fun i (hi : i < l.length) (hik : i < k + 1) => by
        by_cases e2 : i = k
        · subst e2
          rw [hx]
          exact e
        · exact HALL.out i hi (by omega) : ∀ i (hi : i < l.length), i < k + 1 → shortA l[i] = true))
      obtain ⟨c0, o0, hpe, hc0, hx0⟩ := H2.out.cell (i := k) (j := 0) hkl (u := .int .u8 (x.1.kind : Int)) (by rw [hx]; rfl)
      have hF := fun j u (hu : (encA x)[j]? = some u) => (by
        obtain ⟨c1, o1, e1, _, h1⟩ := H2.out.cell (i := k) (j := j) hkl (by rw [hx]; exact hu)
        rw [hpe] at e1
        injection e1 with e1
        injection e1 with e1 e2
        subst e1 e2
        rw [← Nat.add_assoc] at h1
        exact h1 : wr.cell? ⟨c0, o0 + k * 6 + j, none⟩ = some u)
      have HSX := Lib.hid (show shortA x = !(decide (200 < x.1.path.length) || decide (200 < x.1.to_.length) || decide (300000 < x.1.b.length) || decide (200 < x.1.ks.length)) from rfl)
      have HBB := Lib.hid (fun (o : Obj) => (hB.alloc hB.size o : Below w.heap.size w (wr.alloc o)))
      obtain ⟨⟨ak, ap, at2, ab, an, aks⟩, ⟨ebq, ebc, ekp, ekc⟩⟩ := x
      dsimp only at hzx HSX
      have f0 : wr.cell? ⟨c0, o0 + k * 6, none⟩ = some (.int .u8 (ak : Int)) := hF 0 _ rfl
      have f1 := hF 1 _ rfl
      have f2 := hF 2 _ rfl
      have f3 := hF 3 _ rfl
      have f4 := hF 4 _ rfl
      have f5 := hF 5 _ rfl
      dsimp only at f1 f2 f3 f4 f5
      obtain ⟨y1, y2, y3, y4⟩ := hzx
      rw [hpe]
      clear hF hx0 hpe hx hB hall
      by_cases g0 : 200 < ap.length
      · have q0a : (200 : Int) < (ap.length : Int) := by omega
        have q0b : decide ((200 : Int) < (ap.length : Int)) = true := decide_eq_true q0a
        have q0c : decide (200 < ap.length) = true := decide_eq_true g0
        have HN := Lib.hid (HNO.out (by rw [HSX.out, decide_eq_true g0]; simp))
        clear g0
        go_wp2
        go_ret
        exact ⟨by rw [HN.out]; rfl, HBB.out _⟩
      · have q0a : ¬ (200 : Int) < (ap.length : Int) := by omega
        have q0b : decide ((200 : Int) < (ap.length : Int)) = false := decide_eq_false q0a
        have q0c : decide (200 < ap.length) = false := decide_eq_false g0
        by_cases g1 : 200 < at2.length
        · have q1a : (200 : Int) < (at2.length : Int) := by omega
          have q1b : decide ((200 : Int) < (at2.length : Int)) = true := decide_eq_true q1a
          have q1c : decide (200 < at2.length) = true := decide_eq_true g1
          have HN := Lib.hid (HNO.out (by rw [HSX.out, decide_eq_false g0, decide_eq_true g1]; simp))
          clear g0 g1
          go_wp2
          go_ret
          exact ⟨by rw [HN.out]; rfl, HBB.out _⟩
        · have q1a : ¬ (200 : Int) < (at2.length : Int) := by omega
          have q1b : decide ((200 : Int) < (at2.length : Int)) = false := decide_eq_false q1a
          have q1c : decide (200 < at2.length) = false := decide_eq_false g1
          by_cases g2 : 300000 < ab.length
          · have q2a : (300000 : Int) < (ab.length : Int) := by omega
            have q2b : decide ((300000 : Int) < (ab.length : Int)) = true := decide_eq_true q2a
            have q2c : decide (300000 < ab.length) = true := decide_eq_true g2
            have HN := Lib.hid (HNO.out (by rw [HSX.out, decide_eq_false g0, decide_eq_false g1, decide_eq_true g2]; simp))
            clear g0 g1 g2
            go_wp2
            go_ret
            exact ⟨by rw [HN.out]; rfl, HBB.out _⟩
          · have q2a : ¬ (300000 : Int) < (ab.length : Int) := by omega
            have q2b : decide ((300000 : Int) < (ab.length : Int)) = false := decide_eq_false q2a
            have q2c : decide (300000 < ab.length) = false := decide_eq_false g2
            by_cases g3 : 200 < aks.length
            · have q3a : (200 : Int) < (aks.length : Int) := by omega
              have q3b : decide ((200 : Int) < (aks.length : Int)) = true := decide_eq_true q3a
              have q3c : decide (200 < aks.length) = true := decide_eq_true g3
              have HN := Lib.hid (HNO.out (by rw [HSX.out, decide_eq_false g0, decide_eq_false g1, decide_eq_false g2, decide_eq_true g3]; simp))
              clear g0 g1 g2 g3
              go_wp2
              go_ret
              exact ⟨by rw [HN.out]; rfl, HBB.out _⟩
            · have q3a : ¬ (200 : Int) < (aks.length : Int) := by omega
              have q3b : decide ((200 : Int) < (aks.length : Int)) = false := decide_eq_false q3a
              have q3c : decide (200 < aks.length) = false := decide_eq_false g3
              have HS := Lib.hid (HYS.out (by rw [HSX.out, decide_eq_false g0, decide_eq_false g1, decide_eq_false g2, decide_eq_false g3]; rfl))
              clear g0 g1 g2 g3
              go_wp2
              exact ⟨⟨k + 1, by omega, by go_num, HS.out, HBB.out _⟩, by simp [intOf]; omega⟩
    · obtain rfl : k = n := by omega
      have z1 : ¬ (k : Int) < (k : Int) := by omega
      have z2 : decide ((k : Int) < (k : Int)) = false := decide_eq_false z1
      have hy := shortL_yes (l := l) (fun i hi => HALL.out i hi (by rw [← H.out.len]; exact hi))
      rw [H.out.len, HR.out] at hy
      subst hy
      have HD := Lib.hid (show decide ((k : Int) ≤ 40) = decide (k ≤ 40) from decide_eq_decide.2 (by omega))
      clear hB hall
      go_wp2
      go_ret
      exact ⟨by first | rfl | (exact congrArg (fun x => Ending.returned (Value.bool x)) HD.out), HB.out⟩
end Go.Proofs.YtjglgohchhdkkaaGreatDoor
/- The reference's disk lies outside S: a disk's call leaves it alone. -/
namespace Go.Proofs.YtjglgohchhdkkaaGreatDoor
open Go Go.RowKit
section
variable {S S' : Nat → Prop} {w w' : World}
/-- The reference's disk lies outside S: a disk's call leaves it alone. -/
theorem RfG.kq {m : Dk} {h : Hd} (r : RfG (fun k => ¬ S k) w m h) (k : Kq8 S w w') (g : GrewTo w.heap.size S S') : RfG (fun k => ¬ S' k) w' m h :=
  ((r.wider (G' := fun c => ¬ S c ∧ c < w.heap.size) fun c hc hl => ⟨hc, hl⟩).keep (w' := w') (fun c hc hl => k.block c hl hc.1) k.size).wider fun c hc _ hs => by
    rcases g c hs with x | x
    · exact hc.1 x
    · have := hc.2; omega
end
end Go.Proofs.YtjglgohchhdkkaaGreatDoor
