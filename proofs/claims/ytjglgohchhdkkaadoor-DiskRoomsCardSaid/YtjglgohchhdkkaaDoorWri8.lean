/- Write of the program's disk. -/
import Derived.Test.YtjglgohchhdkkaaDoorRot8
import Derived.Test.YtjglgohchhdkkaaDoorRfs8
set_option linter.unusedSimpArgs false
set_option linter.unusedVariables false
namespace Go.Proofs.YtjglgohchhdkkaaDoor
open Go Go.RowKit

def fileW (m : Dk) (p x : S8) (time : Int) : Fl := ⟨p, m.bodies.length, x.length, time, m.count + 1⟩
def bodyW (m : Dk) (x : S8) : Dk := { m with count := m.count + 1, bodies := m.bodies ++ [x] }
def writeQ (m : Dk) (p x : S8) (time : Int) : Dk × Nat := if writeP m p x.length = 0 then (changeL (bodyW m x) ⟨1, [], fileW m p x time⟩, 0) else (m, writeP m p x.length)
theorem writeQ_eq (m : Dk) (p x : S8) (time : Int) (h : m.seen.length ≤ 64) : writeQ m p x time = writeL m p x time := by
  unfold writeQ
  have h2 := writeP_eq m p x time h
  by_cases h0 : writeP m p x.length = 0
  · rw [if_pos h0]
    rw [h0] at h2
    have : ∀ y, writeL m p x time = y → y.2 = 0 → y = (changeL (bodyW m x) ⟨1, [], fileW m p x time⟩, 0) := by
      intro y hy h3
      unfold writeL at hy
      repeat' split at hy
      all_goals first | (rw [← hy] at h3; cases h3; done) | (rw [← hy]; rfl)
    exact (this _ rfl h2).symm
  · rw [if_neg h0]
    have h3 := writeL_no m p x time (by rw [h2]; exact h0)
    exact (Prod.ext h3 h2).symm
theorem writeP_small {m : Dk} {p : S8} {n : Nat} (h : writeP m p n = 0) : n ≤ 262144 ∧ goodL p = true := by
  unfold writeP at h
  cases hg : goodL p with
  | false => rw [hg] at h; simp at h
  | true =>
    rw [hg] at h
    refine ⟨?_, rfl⟩
    rcases Nat.lt_or_ge 262144 n with g | g
    · rw [if_neg (by decide), if_pos g] at h
      exact absurd h (by decide)
    · exact g
def slPut (sl : Nat → Hn) (i : Nat) (h : Hn) (j : Nat) : Hn := if j = i then h else sl j
theorem slPut_at (sl : Nat → Hn) (i : Nat) (h : Hn) : slPut sl i h i = h := by unfold slPut; rw [if_pos rfl]
theorem slPut_lt (sl : Nat → Hn) {i j : Nat} (h : Hn) (hj : j < i) : slPut sl i h j = sl j := by unfold slPut; rw [if_neg (by omega)]
section
variable {w w' : World} {S S' : Nat → Prop} {b : Nat} {m : Dk} {mv md : Nat} {pv : Value} {vs : List Value} {sl : Nat → Hn}
theorem Dp.count (h : Dp w S b m mv md pv vs sl) (c : Int) : Dp (w.setCell ⟨b, 1, none⟩ (.int .i64 c)) S b { m with count := c } mv md pv vs sl := by
  have hk : ∀ k, k ≠ b → (w.setCell ⟨b, 1, none⟩ (.int .i64 c)).heap[k]? = w.heap[k]? := fun k hne => Below.heap_setCell _ _ _ _ hne
  have nty : ∀ k cs T, w.heap[k]? = some (.cells cs T (0, 0)) → T ≠ 56 → k ≠ b := fun k cs T h2 hT e => by
    rw [e, h.box] at h2
    injection h2 with h2
    injection h2 with _ h2 _
    exact hT h2.symm
  obtain ⟨e1, c1, hv1, _⟩ := id h.vis
  obtain ⟨e2, c2, hd1, _⟩ := id h.dur
  exact ⟨setCell_box h.box 1 _, h.sb, h.sv, h.sd, h.ne, h.vis.keep (hk mv (h.ne_map hv1).1), h.dur.keep (hk md (h.ne_map hd1).1), h.bod.keep (fun k cur _ hc => hk k (nty k cur _ hc (by decide))) (fun _ x => x), h.pd.keep (fun k T cs _ h2 hT => hk k (nty k cs T h2 (by rcases hT with rfl | rfl | rfl <;> decide))) (fun _ x => x), ⟨h.sz.seen, h.sz.safe, h.sz.waits⟩, fun k hk2 => by simpa using h.low k hk2⟩
theorem body_new (m : Dk) (x : S8) {f : Fl} (h : f.body < m.bodies.length) : bodyL { m with bodies := m.bodies ++ [x] } f = bodyL m f := by
  unfold bodyL
  show (m.bodies ++ [x]).getD f.body [] = m.bodies.getD f.body []
  rw [List.getD_eq_getElem?_getD, List.getElem?_append_left h, ← List.getD_eq_getElem?_getD]
theorem Dp.body {n : Nat} (h : Dp w S b m mv md pv vs sl) (hok : DkOk n m) (hB : Below w.heap.size w w') (x : S8) (q : Option Addr) (k c : Nat) (ho : w'.ownsRow w.heap.size 5 1 (.slice q k c) x.length (bytC x)) :
    Dp w' (SN S w.heap.size w'.heap.size) b { m with bodies := m.bodies ++ [x] } mv md pv vs (slPut sl m.bodies.length ⟨q, k, c⟩) := by
  have hw := h.wide hB
  have hlt : ∀ {i}, i < (m.bodies ++ [x]).length → i < m.bodies.length ∨ i = m.bodies.length := fun hi => by
    rw [List.length_append] at hi
    simp at hi
    omega
  have hold : ∀ {i}, i < m.bodies.length → (m.bodies ++ [x]).getD i [] = m.bodies.getD i [] := fun hi => by
    rw [List.getD_eq_getElem?_getD, List.getElem?_append_left hi, ← List.getD_eq_getElem?_getD]
  have hnew : (m.bodies ++ [x]).getD m.bodies.length [] = x := by
    rw [List.getD_eq_getElem?_getD, List.getElem?_append_right (Nat.le_refl _)]
    simp
  have hfile : ∀ f : Fl, f.body < m.bodies.length → sl f.body = slPut sl m.bodies.length ⟨q, k, c⟩ f.body := fun f hf => (slPut_lt sl _ hf).symm
  refine ⟨hw.box, hw.sb, hw.sv, hw.sd, hw.ne, ?_, ?_, ⟨fun i hi => ?_, fun i hi g hg => ?_, fun i j hi hj hne g hg => ?_⟩, ⟨hw.pd.own, hw.pd.in_, fun i hi => ?_⟩, ⟨fun f hf => ?_, fun f hf => ?_, fun y hy hk => ?_⟩, hw.low⟩
  · show MpB w' mv (m.seen.map _)
    rw [← ent_congr (sl := sl) (fun f hf => hfile f (hok.inS f hf))]
    exact hw.vis
  · show MpB w' md (m.safe.map _)
    rw [← ent_congr (sl := sl) (fun f hf => hfile f (hok.inF f hf))]
    exact hw.dur
  · show World.ownsRow _ _ _ _ _ ((m.bodies ++ [x]).getD i []).length (bytC ((m.bodies ++ [x]).getD i []))
    rcases hlt hi with hi | hi
    · rw [hold hi, slPut_lt sl _ hi]
      exact hw.bod.own i hi
    · rw [hi, hnew, slPut_at]
      exact own_lower ho (Nat.zero_le _)
  · rcases hlt hi with hi | hi
    · rw [slPut_lt sl _ hi] at hg
      exact hw.bod.in_ i hi g hg
    · rw [hi, slPut_at] at hg
      exact .inr (ho.lt g hg)
  · rcases hlt hi with hi | hi <;> rcases hlt hj with hj | hj
    · rw [slPut_lt sl _ hi] at hg
      rw [slPut_lt sl _ hj]
      exact hw.bod.ap i j hi hj hne g hg
    · rw [slPut_lt sl _ hi] at hg
      rw [hj, slPut_at]
      intro e
      have h1 := h.low g (h.bod.in_ i hi g hg)
      have h2 := (ho.lt g e).1
      omega
    · rw [hi, slPut_at] at hg
      rw [slPut_lt sl _ hj]
      intro e
      have h1 := h.low g (h.bod.in_ j hj g e)
      have h2 := (ho.lt g hg).1
      omega
    · omega
  · obtain ⟨v, e, hc⟩ := hw.pd.cls i hi
    refine ⟨v, e, ?_⟩
    cases hc with
    | write b1 b2 hk hv h1 h2 s1 s2 =>
      refine .write b1 b2 hk hv h1 ?_ s1 s2
      have hb := hok.inW _ (List.getElem_mem hi) hk
      unfold BoxF fileC at h2 ⊢
      rw [← hfile _ hb]
      exact h2
    | rename b1 b2 hk hv h1 h2 s1 s2 => exact .rename b1 b2 hk hv h1 h2 s1 s2
    | remove b1 hk hv h1 s1 => exact .remove b1 hk hv h1 s1
  · rw [body_new m x (hok.inS f hf)]; exact h.sz.seen f hf
  · rw [body_new m x (hok.inF f hf)]; exact h.sz.safe f hf
  · rw [body_new m x (hok.inW y hy hk)]; exact h.sz.waits y hy hk
theorem DkOk.bodyW {n : Nat} (h : DkOk n m) (x : S8) (hx : x.length ≤ 262144) : DkOk (n + 1) (bodyW m x) := by
  have hl : (m.bodies ++ [x]).length = m.bodies.length + 1 := by simp
  exact ⟨Nat.le_succ_of_le h.seen, Nat.le_succ_of_le h.both, by show (m.bodies ++ [x]).length ≤ _; rw [hl]; exact Nat.add_le_add_right h.bod 1, by have := h.cnt0; show 0 ≤ m.count + 1; omega, by have := h.cnt1; show m.count + 1 ≤ _; push_cast; omega, h.shS, h.shF, h.chk, fun f hf => by show _ < (m.bodies ++ [x]).length; rw [hl]; exact Nat.lt_succ_of_lt (h.inS f hf), fun f hf => by show _ < (m.bodies ++ [x]).length; rw [hl]; exact Nat.lt_succ_of_lt (h.inF f hf), fun c hc hk => by show _ < (m.bodies ++ [x]).length; rw [hl]; exact Nat.lt_succ_of_lt (h.inW c hc hk), fun y hy => by
    rcases List.mem_append.1 hy with hy | hy
    · exact h.bs y hy
    · simp at hy; rw [hy]; exact hx⟩
theorem stamp_cells (u : World) (a b c : Value) : (u.alloc (.cells #[a, b, c] 45)).cell? ⟨u.heap.size, 0, none⟩ = some a ∧ (u.alloc (.cells #[a, b, c] 45)).cell? ⟨u.heap.size, 1, none⟩ = some b ∧ (u.alloc (.cells #[a, b, c] 45)).cell? ⟨u.heap.size, 2, none⟩ = some c := by
  have h := World.alloc_heap_new u (.cells #[a, b, c] 45)
  unfold World.cell?
  rw [h]
  simp
theorem three_kept {u u' : World} {k : Nat} {a b c : Value} (h : u.cell? ⟨k, 0, none⟩ = some a ∧ u.cell? ⟨k, 1, none⟩ = some b ∧ u.cell? ⟨k, 2, none⟩ = some c) (hk : u'.heap[k]? = u.heap[k]?) : u'.cell? ⟨k, 0, none⟩ = some a ∧ u'.cell? ⟨k, 1, none⟩ = some b ∧ u'.cell? ⟨k, 2, none⟩ = some c :=
  ⟨(World.cell?_of_block hk).trans h.1, (World.cell?_of_block hk).trans h.2.1, (World.cell?_of_block hk).trans h.2.2⟩
set_option maxRecDepth 100000 in
set_option maxHeartbeats 8000000 in
theorem write_any (h : Dp w S b m mv md pv vs sl) (hok : DkOk 299 m) (hr0 : 0 ≤ m.room) (hr1 : m.room ≤ 1048576) (p x : S8) (q : Option Addr) (cap : Nat) (time : Int) (hp : p.length ≤ 1000) (hx : x.length ≤ 400000) (hl : LsG (fun k => ¬ S k) w q x.length cap 1 (bytC x)) : Calls Tryd.prog 8 #[.pointer (some ⟨b, 0, none⟩), .string (mkS p), .slice q x.length cap, .int .i64 time] w fun e w' => e = .returned (.int .i64 ((writeQ m p x time).2 : Int)) ∧ DPost S b w (writeQ m p x time).1 w' := by
  have HRF := Lib.hid (refusal_any h (hok.mono (by decide)) hr0 hr1 p x.length hp hx)
  have H := Lib.hid h
  have HOK := Lib.hid hok
  have HL := Lib.hid hl
  have HPX := Lib.hid (And.intro hp hx)
  have HCT := Lib.hid (And.intro hok.cnt0 hok.cnt1)
  obtain ⟨cd, hcd⟩ : ∃ cd, writeP m p x.length = cd := ⟨_, rfl⟩
  rw [hcd] at HRF
  obtain ⟨xl, hxl⟩ : ∃ xl, x.length = xl := ⟨_, rfl⟩
  rw [hxl] at HRF
  rw [hxl]
  have HXL := Lib.hid hxl
  have HCD := Lib.hid hcd
  clear h hok hl hp hx hcd hr0 hr1 hxl
  by_cases h0 : cd = 0
  · subst h0
    have HW := Lib.hid (show writeQ m p x time = (changeL (Go.Proofs.YtjglgohchhdkkaaDoor.bodyW m x) ⟨1, [], fileW m p x time⟩, 0) by unfold writeQ; rw [if_pos HCD.out])
    have hcw : IntKind.i64.wrap (m.count + 1) = m.count + 1 := by have h1 := HCT.out.1; have h2 := HCT.out.2; rw [IntKind.wrap_i64]; omega
    go_enter Tryd.func8, Tryd.ntmps8
    go_wp2_with fail
    refine HRF.out.mono ?_
    rintro e w1 ⟨rfl, hB1⟩
    have h1 := H.out.of_below hB1
    have c1 := h1.cell 1
    have f1 := h1.free 1
    simp at c1
    have hc2 := h1.count (m.count + 1)
    have c12 := hc2.cell 1
    simp at c12
    have H2 := Lib.hid hc2
    have HB1 := Lib.hid hB1
    clear h1 hB1 hc2
    go_wp2_with fail
    have HBT := Lib.hid (show Below w.heap.size w w1 from HB1.out)
    obtain ⟨U0, hU0⟩ : ∃ U0, w1.setCell ⟨b, 1, none⟩ (.int .i64 (m.count + 1)) = U0 := ⟨_, rfl⟩
    obtain ⟨U, hU⟩ : ∃ U, U0.alloc (.cells #[.int .i64 (xl : Int), .int .i64 time, .int .i64 (m.count + 1)] 45) = U := ⟨_, rfl⟩
    have HU0 := Lib.hid hU0
    have HU := Lib.hid hU
    have hs0 : U0.heap.size = w1.heap.size := by rw [← hU0]; simp
    have hs1 : U.heap.size = U0.heap.size + 1 := by rw [← hU, World.size_alloc]
    have HZ0 := Lib.hid hs0
    have HZ1 := Lib.hid hs1
    have hBU : Below U0.heap.size U0 U := by rw [← hU]; exact (Below.refl _ _).alloc (Nat.le_refl _) _
    have HBU := Lib.hid hBU
    have hst := stamp_cells U0 (.int .i64 (xl : Int)) (.int .i64 time) (.int .i64 (m.count + 1))
    rw [hU] at hst
    have HST := Lib.hid hst
    have hd0 := H2.out
    rw [hU0] at hd0
    have HDU := Lib.hid (hd0.of_below hBU)
    have hokc : DkOk 300 { m with count := m.count + 1 } := ⟨Nat.le_succ_of_le HOK.out.seen, Nat.le_succ_of_le HOK.out.both, Nat.le_succ_of_le HOK.out.bod, by have := HCT.out.1; show 0 ≤ m.count + 1; omega, by have := HCT.out.2; show m.count + 1 ≤ _; omega, HOK.out.shS, HOK.out.shF, HOK.out.chk, HOK.out.inS, HOK.out.inF, HOK.out.inW, HOK.out.bs⟩
    have HOKC := Lib.hid hokc
    obtain ⟨hxle, hpl⟩ := writeP_small HCD.out
    have HOKB := Lib.hid (HOK.out.bodyW x hxle)
    have HPL := Lib.hid (goodL_len hpl)
    have hlw : LsC U q (bytC x) := (HL.out.keep (w' := U) (fun c hns hc => by
      rw [hBU.block c (by rw [hs0]; exact Nat.lt_of_lt_of_le hc HB1.out.size), ← hU0, Below.heap_setCell _ _ _ _ (fun e2 => hns (by rw [e2]; exact H.out.sb))]
      exact HB1.out.block c hc) (Nat.le_trans HB1.out.size (by rw [← hs0]; exact hBU.size))).at_
    have HCL := Lib.hid (clone8_any x q xl cap U.drew HXL.out (hlw.of_below (Below.refl _ _).drew) HL.out.nil (by have := HL.out.le; rw [HXL.out] at this; exact this) (by have := HXL.out; omega))
    have HST0 := Lib.hid hst
    have HSTK := Lib.hid (fun (u : World) (hb : u.heap[U0.heap.size]? = U.heap[U0.heap.size]?) => three_kept hst hb)
    obtain ⟨s1, s2, s3⟩ := hst
    obtain ⟨r1, r2, r3⟩ := HSTK.out U.drew rfl
    have HBW : Hid (Kq8 S w U) := Lib.hid ⟨by rw [hBU.os, ← hU0]; exact HB1.out.os, by rw [hBU.tape, ← hU0]; exact HB1.out.tape, by rw [hBU.output, ← hU0]; exact HB1.out.output, Nat.le_trans HB1.out.size (by rw [← hs0]; exact hBU.size), fun k hk hn => by
      rw [hBU.block k (by rw [hs0]; exact Nat.lt_of_lt_of_le hk HB1.out.size), ← hU0, Below.heap_setCell _ _ _ _ (fun e2 => hn (by rw [e2]; exact H.out.sb))]
      exact HB1.out.block k hk⟩
    rw [HU0.out, HZ0.out.symm, HU.out]
    clear hokc hxle hpl hlw hBU hU hU0 hd0 c1 f1 c12 hs0 hs1
    go_region_held3 (fun u : World => u.cell? ⟨U0.heap.size, 0, none⟩ = some (.int .i64 (xl : Int)) ∧ u.cell? ⟨U0.heap.size, 1, none⟩ = some (.int .i64 time) ∧ u.cell? ⟨U0.heap.size, 2, none⟩ = some (.int .i64 (m.count + 1))) (first | exact ⟨r1, r2, r3⟩ | exact ⟨z1, z2, z3⟩ | exact ⟨y1, y2, y3⟩ | exact ⟨t1, t2, t3⟩ | go_keep) ((first
      | (go_at_call 24
         refine HCL.out.mono ?_
         rintro e w3 ⟨v, rfl, hO, hB3⟩
         obtain ⟨q3, c3, hv3⟩ := own_slice hO
         subst hv3
         have hB3b : Below U.heap.size U w3 := ((Below.refl _ _).drew).trans (by exact hB3)
         obtain ⟨z1, z2, z3⟩ := HSTK.out w3 (hB3b.block _ (by rw [HZ1.out]; omega))
         have hO2 : w3.ownsRow U.heap.size 5 1 (.slice q3 xl c3) x.length (bytC x) := by rw [HXL.out]; exact hO
         have hD3 := HDU.out.body HOKC.out hB3b x q3 xl c3 hO2
         have HD3 := Lib.hid hD3
         have hWR := writing_any (slPut sl m.bodies.length ⟨q3, xl, c3⟩) (fileW m p x time) w3 (Nat.lt_of_le_of_lt HPL.out (by decide))
         unfold fileW at hWR
         simp only [slPut_at, HXL.out] at hWR
         have HWR := Lib.hid hWR
         have HB3 := Lib.hid hB3b
         clear hO hB3 hB3b hO2 hD3 hWR)
      | (go_at_call 23
         refine HWR.out.mono ?_
         rintro e w4 ⟨rfl, hb1, hb2, hB4⟩
         obtain ⟨y1, y2, y3⟩ := HSTK.out w4 ((hB4.block _ (Nat.lt_of_lt_of_le (by rw [HZ1.out]; omega) HB3.out.size)).trans (HB3.out.block _ (by rw [HZ1.out]; omega)))
         have hD4 : Dp w4 (SN S U.heap.size w4.heap.size) b (Go.Proofs.YtjglgohchhdkkaaDoor.bodyW m x) mv md pv vs (slPut sl m.bodies.length ⟨q3, xl, c3⟩) :=
           (HD3.out.wide hB4).keep (fun _ _ => rfl) (fun k hk => SN.join HB3.out.size hB4.size k hk) (SN.low (HDU.out.low) (Nat.le_trans HB3.out.size hB4.size))
         have hcl : ClsV w4 (SN S U.heap.size w4.heap.size) (slPut sl m.bodies.length ⟨q3, xl, c3⟩) ⟨1, [], fileW m p x time⟩ (.func (.func 35) #[] #[.pointer (some ⟨w3.heap.size, 0, none⟩), .pointer (some ⟨w3.heap.size + 1, 0, none⟩)]) :=
           .write _ _ rfl rfl hb1 (by
             have e : fileW m p x time = ⟨p, m.bodies.length, (xl : Int), time, m.count + 1⟩ := by unfold fileW; rw [HXL.out]
             show BoxF _ _ _ (fileW m p x time)
             rw [e]
             exact hb2) (.inr ⟨HB3.out.size, hb1.lt⟩) (.inr ⟨Nat.le_succ_of_le HB3.out.size, hb2.lt⟩)
         have HDO := Lib.hid (do_any hD4 HOKB.out hcl (Nat.lt_of_le_of_lt HPL.out (by decide)) (fun _ => by
           show (x.length : Int) = (((m.bodies ++ [x]).getD m.bodies.length []).length : Int)
           rw [List.getD_eq_getElem?_getD, List.getElem?_append_right (Nat.le_refl _)]
           simp))
         have HB4 := Lib.hid hB4
         clear hb1 hb2 hB4 hD4 hcl)
      | (go_at_call 22
         refine HDO.out.mono ?_
         rintro e w5 ⟨rfl, hd, hk⟩
         have hns : ¬ SN S U.heap.size w4.heap.size U0.heap.size := fun e => by
           rcases e with e | e
           · have h1 := H.out.low _ e
             have h2 := HB1.out.size
             have h3 := HZ0.out
             omega
           · have := HZ1.out
             omega
         obtain ⟨t1, t2, t3⟩ := HSTK.out w5 ((hk.block _ (Nat.lt_of_lt_of_le (by rw [HZ1.out]; omega) (Nat.le_trans HB3.out.size HB4.out.size)) hns).trans ((HB4.out.block _ (Nat.lt_of_lt_of_le (by rw [HZ1.out]; omega) HB3.out.size)).trans (HB3.out.block _ (by rw [HZ1.out]; omega))))
         have HFIN : Hid (DPost S b w (changeL (Go.Proofs.YtjglgohchhdkkaaDoor.bodyW m x) ⟨1, [], fileW m p x time⟩) w5) := Lib.hid (by
           obtain ⟨pv2, vs2, hd⟩ := hd
           have hB34 : Below U.heap.size U w4 := HB3.out.trans (HB4.out.mono HB3.out.size)
           have hp := DPost.after hB34 HDU.out.low (m := changeL (Go.Proofs.YtjglgohchhdkkaaDoor.bodyW m x) ⟨1, [], fileW m p x time⟩) ⟨⟨_, _, _, _, _, hd⟩, hk⟩
           obtain ⟨⟨a1, a2, a3, a4, a5, hd5⟩, hk5⟩ := hp
           refine ⟨⟨a1, a2, a3, a4, a5, hd5.keep (fun _ _ => rfl) (fun i hi => ?_) (SN.low H.out.low (Nat.le_trans HBW.out.size hk5.size))⟩, ?_⟩
           · rcases hi with e | e
             · exact .inl e
             · exact .inr ⟨Nat.le_trans HBW.out.size e.1, e.2⟩
           · exact ⟨hk5.os.trans HBW.out.os, hk5.tape.trans HBW.out.tape, hk5.output.trans HBW.out.output, Nat.le_trans HBW.out.size hk5.size, fun i hi hn => (hk5.block i (Nat.lt_of_lt_of_le hi HBW.out.size) hn).trans (HBW.out.block i hi hn)⟩)
         clear hd hk hns)
      ))
    clear s1 s2 s3 r1 r2 r3 z1 z2 z3 y1 y2 y3 t1 t2 t3
    go_wp2
    go_ret
    rw [HW.out]
    exact ⟨rfl, HFIN.out⟩
  · have hne : ((cd : Int) != 0) = true := by simp; omega
    have HW := Lib.hid (show writeQ m p x time = (m, cd) by unfold writeQ; rw [HCD.out, if_neg h0])
    clear h0
    go_enter Tryd.func8, Tryd.ntmps8
    go_wp2_with fail
    refine HRF.out.mono ?_
    rintro e w1 ⟨rfl, hB1⟩
    have HB1 := Lib.hid hB1
    clear hB1
    go_wp2
    go_ret
    rw [HW.out]
    exact ⟨rfl, DPost.same H.out HB1.out⟩
end
end Go.Proofs.YtjglgohchhdkkaaDoor
