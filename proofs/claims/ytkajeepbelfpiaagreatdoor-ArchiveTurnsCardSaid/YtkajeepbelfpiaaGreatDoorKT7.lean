/- Merged texts: RdDP6, RdGP6, Tkr10, Rdj10, Prs10, Bys9, Fresh6. -/
import Derived.Deep.RegionLaw
import Derived.Test.YtkajeepbelfpiaaGreatDoorKT6
import Derived.Test.YtkajeepbelfpiaaGreatDoorKT1
import Derived.Deep.RegionHeld3
import Derived.Test.YtkajeepbelfpiaaGreatDoorKT2
import Derived.Test.YtkajeepbelfpiaaGreatDoorKT4
import Derived.Test.YtkajeepbelfpiaaGreatDoorRef6
import Derived.Lib.ConvBytes
set_option linter.unusedSimpArgs false
set_option linter.unusedVariables false
/- The reader's truths and digests. -/
set_option maxRecDepth 100000
namespace Go.Proofs.YtkajeepbelfpiaaGreatDoor
open Go Go.RowKit
attribute [-go_sem] Sha.exec_store

theorem step_copyT {ops : Array Oper} {o : Oper} {a : Act} {K : Act → World → Prop} {Q : Exit → Act → World → Prop} {F : Prop} (w : World) (hgd : o.guard = none) (d s : Operand)
    (ho : o.op = .call { callee := .builtin .copy, args := #[d, s], argTypes := #[56, 56] }) (T : TypeId) (E m c : Nat) (g : Nat → Value) (q : Option Addr) (n c' : Nat) (l : List (BitVec 8))
    (hd : a.eval d = .slice (some ⟨E, 0, none⟩) m c) (hs : a.eval s = .slice q n c') (hR : Row w E T m g) (hl : l.length = n) (hsl : Sl w q l) (t : Nat) (ht : t = min m n)
    (h : ∀ w', Row w' E T m (copiedT l t g) → Kp E w w' → K (a.put o.dst (.int .i64 (t : Int))) w') :
    if Region.wanted o (yielded ops a.tmps) = true then Oper.wp Tryz.prog o a w K Q else F := by
  have hw : Region.wanted o (yielded ops a.tmps) = true := by simp [Region.wanted, hgd]
  rw [if_pos hw]
  obtain ⟨w', hr, h2, h3⟩ := run_copyT w o.type T E m c g q n c' l hR hl hsl t ht
  unfold Oper.wp execOp
  simp only [ho, resolve, invoke, builtin, Sem.run_bind, Sem.run_pure, Result.andThen_ok, List.map_toArray, List.map_cons, List.map_nil, hd, hs, hr]
  exact h w' h2 h3
/-- What changes a block of the call's own leaves all else alone. -/
theorem Kp.high {b d : Nat} {x y z : World} (h : Kp b x y) (k : Kp d y z) (hd : x.heap.size ≤ d) : Kp b x z :=
  ⟨k.os.trans h.os, k.tape.trans h.tape, k.output.trans h.output, Nat.le_trans h.size k.size, fun i hi hb => (k.block i (Nat.lt_of_lt_of_le hi h.size) (by omega)).trans (h.block i hi hb)⟩
/-- Nor does it touch the reader. -/
theorem rdP_high {p : Option Addr} {N : Nat} {w w' : World} {a : Addr} {l : List (BitVec 8)} {d : Nat} (h : RdP p N w a l) (k : Kp d w w') (hd : a.block < d) : RdP p N w' a l :=
  rdP_stay _ _ _ _ _ _ h k.size (k.block _ (rdP_lie _ _ _ _ _ h).2 (by omega)) fun c o _ hc => k.block _ (by have := rdP_lie _ _ _ _ _ h; omega) (by have := rdP_lie _ _ _ _ _ h; omega)
theorem rdP_below {p : Option Addr} {N : Nat} {w w' : World} {a : Addr} {l : List (BitVec 8)} (h : RdP p N w a l) (k : Below w.heap.size w w') : RdP p N w' a l :=
  rdP_stay _ _ _ _ _ _ h k.size (k.block _ (rdP_lie _ _ _ _ _ h).2) fun c o _ hc => k.block _ (by have := rdP_lie _ _ _ _ _ h; omega)
theorem sl_arr1 (E : Nat) (w : World) : (slT 307 (.pointer (some ⟨E, 0, none⟩)) none none none).run Tryz.prog w = .ok (.value (.slice (some ⟨E, 0, none⟩) 1 1)) w := by
  first
  | kernel_rfl
  | (unfold slT; simp [go_sem, Instr.sliceAt])
attribute [local go_sem] sl_arr1 sl_arr
attribute [local go_sem ↓] exec_slice
set_option maxRecDepth 100000 in
set_option maxHeartbeats 1000000 in
theorem rdP_truth (p : Option Addr) (N : Nat) (w : World) (a : Addr) (l : List (BitVec 8)) (h : RdP p N w a l) : Calls Tryz.prog 237 #[.pointer (some a)] w (RdPost RdP ThrP p N w a l (nextI l 3 0).2.2 (nextI l 3 0).2.1 fun v _ => v = .bool (decide ((nextI l 3 0).1.n = 1))) := by
  have hL := rdP_lie _ _ _ _ _ h
  have HL := Lib.hid hL
  have HB1 := Lib.hid (show Below w.heap.size w (w.alloc (.cells #[.int .u8 0] 307)) from (Below.refl _ _).alloc (Nat.le_refl _) _)
  have HR1 := Lib.hid (rdP_below (rdP_below h HB1.out) ((Dr.refl _).drew.below _))
  have HROW := Lib.hid (show Row (w.alloc (.cells #[.int .u8 0] 307)).drew w.heap.size 307 1 (fun _ => B 0#8) from by
    have e : (#[.int .u8 0] : Array Value) = tab 1 (fun _ => B 0#8) := by rw [B_eq']; rfl
    rw [e]
    exact (Row.new w _ 1 _).drew)
  by_cases hlt : l.length < 1
  · have hN : nextI l 3 0 = (⟨0, 0, []⟩, 0, 6) := by unfold nextI; rw [if_pos rfl, if_pos (.inl hlt)]
    rw [hN]
    have HC := Lib.hid (cut_no p N _ a l 1 HR1.out hlt)
    clear h hlt hN hL
    go_enter Tryz.func237, Tryz.ntmps237
    go_wp2
    refine wp_region_any (by kernel_rfl) ?_
    change wpAny _ _ _ _ _ _ _ (World.drew _)
    refine wpAny_take (i := 0) (v := .slice (some ⟨w.heap.size, 0, none⟩) 1 1) rfl (by kernel_rfl) (by kernel_rfl) (by kernel_rfl) (fun _ _ _ h => h) (Or.inl ⟨by rfl, ?_⟩) ?_
    · intro u; go_simp
    refine wpAny_take (i := 1) (v := .pointer (some a)) rfl (by kernel_rfl) (by kernel_rfl) (by kernel_rfl) (fun _ _ _ h => h) (Or.inl ⟨by rfl, ?_⟩) ?_
    · intro u; go_simp
    refine wpAny_ready (rs := [2]) (by kernel_rfl) (by simp) ?_
    refine AllReady.cons rfl (fun K hK => ?_) AllReady.nil
    go_simp
    go_at_call 183
    refine HC.out.mono ?_
    rintro e w3 ⟨hK, v, hv, rfl⟩
    exact ⟨rfl, (((Kp.refl _ w).of_below HB1.out).drewN 1).trans hK, .inr ⟨by decide, v, hv, rfl⟩⟩
  · obtain ⟨c, hc⟩ : ∃ c, (l.getD 0 0#8).toNat = c := ⟨_, rfl⟩
    have HC := Lib.hid (cut_ok p N _ a l 1 HR1.out (by omega))
    have HCC := Lib.hid hc
    have hcl := (l.getD 0 0#8).isLt
    rw [hc] at hcl
    have hN : nextI l 3 0 = if 1 < c then (⟨0, 0, []⟩, 0, 6) else (⟨3, c, []⟩, 1, 0) := by
      unfold nextI
      rw [if_pos rfl, hc]
      by_cases h1 : 1 < c
      · rw [if_pos (.inr h1), if_pos h1]
      · rw [if_neg (by omega), if_neg h1]
    obtain ⟨X, hX⟩ : ∃ X, nextI l 3 0 = X := ⟨_, rfl⟩
    rw [hX]
    have HXE := Lib.hid (hX.symm.trans hN)
    clear hX
    have HLT := Lib.hid hlt
    clear h hlt hN hL hc
    go_enter Tryz.func237, Tryz.ntmps237
    go_wp2
    go_region_law (first
      | (go_simp; go_at_call 183; refine HC.out.mono ?_; rintro e w3 ⟨hK, ⟨q, rfl, hS, hq, hqb⟩, hR⟩
         have HK3 := Lib.hid hK
         have HR3 := Lib.hid hR
         have HS3 := Lib.hid hS
         have HROW3 := Lib.hid (HROW.out.of_kp hK (by have := HL.out.2; omega))
         clear hK hR hS hq hqb)
      | (refine step_copyT _ rfl (.tmp 4) (.tmp 6) rfl 307 w.heap.size 1 1 (fun _ => B 0#8) q 1 1 (l.take 1) rfl rfl HROW3.out (by rw [List.length_take]; have := HLT.out; omega) HS3.out 1 rfl ?_; rintro w4 hR4 hK4
         have HR4 := Lib.hid hR4
         have HK4 := Lib.hid hK4
         clear hR4 hK4))
    have hx : w4.cell? ⟨w.heap.size, 0, none⟩ = some (.int .u8 (c : Int)) := by
      rw [HR4.out.cell 0 (by decide)]
      have e : (l.take 1).getD 0 0#8 = l.getD 0 0#8 := by simp [List.getD_eq_getElem?_getD]
      show some (copiedT (l.take 1) 1 (fun _ => B 0#8) 0) = _
      unfold copiedT
      rw [if_pos (by decide), e, B_eq', HCC.out]
    have HX := Lib.hid (rdP_high HR3.out HK4.out HL.out.2)
    have HKW := Lib.hid (((((Kp.refl _ w).of_below HB1.out).drewN 1).trans HK3.out).high HK4.out (Nat.le_refl _))
    clear HK4 HR4 HROW3 HS3 HR3 HK3 HC
    by_cases h1 : 1 < c
    · have h1z : (1 : Int) < (c : Int) := by omega
      have h1d : decide ((1 : Int) < (c : Int)) = true := decide_eq_true h1z
      obtain rfl : X = (⟨0, 0, []⟩, 0, 6) := by rw [HXE.out, if_pos h1]
      have HF := Lib.hid (rdP_fail _ _ _ _ _ 6 HX.out (by decide))
      clear h1
      go_wp2_with fail
      refine HF.out.mono ?_
      rintro e w5 ⟨⟨v, hv, rfl⟩, hK5⟩
      exact ⟨rfl, HKW.out.trans hK5, .inr ⟨by decide, v, hv, rfl⟩⟩
    · obtain rfl : X = (⟨3, c, []⟩, 1, 0) := by rw [HXE.out, if_neg h1]
      rcases (show c = 0 ∨ c = 1 by omega) with rfl | rfl
      · have hx0 : w4.cell? ⟨w.heap.size, 0, none⟩ = some (.int .u8 0) := hx
        clear hx h1
        go_wp2
        go_ret
        exact ⟨HKW.out, .inl ⟨rfl, ⟨_, rfl, rfl⟩, HX.out⟩⟩
      · have hx0 : w4.cell? ⟨w.heap.size, 0, none⟩ = some (.int .u8 1) := hx
        clear hx h1
        go_wp2
        go_ret
        exact ⟨HKW.out, .inl ⟨rfl, ⟨_, rfl, rfl⟩, HX.out⟩⟩
end Go.Proofs.YtkajeepbelfpiaaGreatDoor
/- The reader's digests. -/
set_option maxRecDepth 100000
namespace Go.Proofs.YtkajeepbelfpiaaGreatDoor
open Go Go.RowKit
attribute [-go_sem] Sha.exec_store

theorem st_row32 {w : World} {E : Nat} {T : TypeId} {g : Nat → Value} (hR : Row w E T 32 g) (l : List (BitVec 8)) :
    ∃ w', (stT 41 (.pointer (some ⟨E, 0, none⟩)) (digV l)).run Tryz.prog w = .ok .skip w' ∧ Row w' E T 32 (dgF l) ∧ Kp E w w' := by
  have h := run_storeVar_row (P := Tryz.prog) w E T 41 (tab 32 g) (tab 32 (dgF l)) hR (by rw [size32, tab_size]) (by rw [tab_size, tab_size]) (by simp [tab, dgF, one_B])
  refine ⟨w.setRow E (tab 32 (dgF l)), ?_, setRow_heap w E _ _ T _ hR, ⟨rfl, rfl, rfl, by simp [World.setRow], fun k _ hk => setRow_other w E k _ hk⟩⟩
  unfold digV
  simp only [stT, Instr.storeAt, Instr.sureAddr, Sem.run_bind, Sem.run_pure, Result.andThen, h]
attribute [local go_sem] sl_arr
attribute [local go_sem ↓] exec_slice exec_alloc32 exec_load32 exec_store32
set_option maxRecDepth 100000 in
set_option maxHeartbeats 1000000 in
theorem rdP_digest (p : Option Addr) (N : Nat) (w : World) (a : Addr) (l : List (BitVec 8)) (h : RdP p N w a l) : Calls Tryz.prog 141 #[.pointer (some a)] w (RdPost RdP ThrP p N w a l (nextI l 4 0).2.2 (nextI l 4 0).2.1 fun v _ => v = digV (nextI l 4 0).1.b) := by
  have hL := rdP_lie _ _ _ _ _ h
  have HL := Lib.hid hL
  have hB1 : Below w.heap.size w ((w.alloc (.cells (zb 32) 41)).alloc (.cells (zb 32) 41)) := ((Below.refl _ _).alloc (Nat.le_refl _) _).alloc (by simp [World.size_alloc]) _
  have HB1 := Lib.hid hB1
  have HR1 := Lib.hid (rdP_below (rdP_below h hB1) ((Dr.refl _).drew.below _))
  have e0 : zb 32 = tab 32 (fun _ => B 0#8) := by unfold zb; exact tab_congr fun j hj => by rw [B_eq']
  have HROW := Lib.hid (show Row ((w.alloc (.cells (zb 32) 41)).alloc (.cells (zb 32) 41)).drew w.heap.size 41 32 (fun _ => B 0#8) ∧ Row ((w.alloc (.cells (zb 32) 41)).alloc (.cells (zb 32) 41)).drew (w.heap.size + 1) 41 32 (fun _ => B 0#8) from by
    rw [e0]
    refine ⟨((Row.new w _ 32 _).of_below ((Below.refl _ _).alloc (Nat.le_refl _) _)).drew, ?_⟩
    have := Row.new (w.alloc (.cells (tab 32 (fun _ => B 0#8)) 41)) 41 32 (fun _ => B 0#8)
    rw [World.size_alloc] at this
    exact this.drew)
  obtain ⟨X, hX⟩ : ∃ X, nextI l 4 0 = X := ⟨_, rfl⟩
  rw [hX]
  by_cases hlt : l.length < 32
  · obtain rfl : X = (⟨0, 0, []⟩, 0, 6) := by rw [← hX]; unfold nextI; rw [if_neg (by decide), if_pos rfl, if_pos hlt]
    have HC := Lib.hid (cut_no p N _ a l 32 HR1.out hlt)
    clear h hlt hX hL hB1 e0
    go_enter Tryz.func141, Tryz.ntmps141
    go_wp2
    refine wp_region_any (by kernel_rfl) ?_
    change wpAny _ _ _ _ _ _ _ (World.drew _)
    refine wpAny_take (i := 0) (v := .slice (some ⟨w.heap.size + 1, 0, none⟩) 32 32) rfl (by kernel_rfl) (by kernel_rfl) (by kernel_rfl) (fun _ _ _ h => h) (Or.inl ⟨by rfl, ?_⟩) ?_
    · intro u; go_simp
    refine wpAny_take (i := 1) (v := .pointer (some a)) rfl (by kernel_rfl) (by kernel_rfl) (by kernel_rfl) (fun _ _ _ h => h) (Or.inl ⟨by rfl, ?_⟩) ?_
    · intro u; go_simp
    refine wpAny_ready (rs := [2]) (by kernel_rfl) (by simp) ?_
    refine AllReady.cons rfl (fun K hK => ?_) AllReady.nil
    go_simp
    go_at_call 183
    refine HC.out.mono ?_
    rintro e w3 ⟨hK, v, hv, rfl⟩
    exact ⟨rfl, (((Kp.refl _ w).of_below HB1.out).drewN 1).trans hK, .inr ⟨by decide, v, hv, rfl⟩⟩
  · obtain rfl : X = (⟨4, 0, l.take 32⟩, 32, 0) := by rw [← hX]; unfold nextI; rw [if_neg (by decide), if_pos rfl, if_neg hlt]
    have HC := Lib.hid (cut_ok p N _ a l 32 HR1.out (by omega))
    have hl32 : (l.take 32).length = 32 := by rw [List.length_take]; omega
    have HLN := Lib.hid hl32
    generalize l.take 32 = d at *
    clear h hlt hX hL hB1 e0 hl32
    go_enter Tryz.func141, Tryz.ntmps141
    go_wp2
    go_region_law (first
      | (go_simp; go_at_call 183; refine HC.out.mono ?_; rintro e w3 ⟨hK, ⟨q, rfl, hS, hq, hqb⟩, hR⟩
         have HK3 := Lib.hid hK
         have HR3 := Lib.hid hR
         have HS3 := Lib.hid hS
         have HROW3 := Lib.hid (And.intro (HROW.out.1.of_kp hK (by have := HL.out.2; omega)) (HROW.out.2.of_kp hK (by have := HL.out.2; omega)))
         clear hK hR hS hq hqb)
      | (refine step_copyT _ rfl (.tmp 4) (.tmp 6) rfl 41 (w.heap.size + 1) 32 32 (fun _ => B 0#8) q 32 32 d rfl rfl HROW3.out.2 HLN.out HS3.out 32 rfl ?_; rintro w4 hR4 hK4
         have HR4 := Lib.hid hR4
         have HK4 := Lib.hid hK4
         clear hR4 hK4))
    have hsl : Sl w4 (some ⟨w.heap.size + 1, 0, none⟩) d := by
      have := Sl.padded HR4.out HLN.out rfl
      rwa [pad32_same HLN.out] at this
    have hld := ld_dig hsl HLN.out
    obtain ⟨w5, hst, hR5, hK5⟩ := st_row32 (HROW3.out.1.of_kp HK4.out (by omega)) d
    have HR5 := Lib.hid hR5
    have HX := Lib.hid (rdP_high (rdP_high HR3.out HK4.out (by have := HL.out.2; omega)) hK5 HL.out.2)
    have HKW := Lib.hid ((((((Kp.refl _ w).of_below HB1.out).drewN 1).trans HK3.out).high HK4.out (Nat.le_succ _)).high hK5 (Nat.le_refl _))
    clear hsl hR5 hK5 HK4 HR4 HROW3 HS3 HR3 HK3 HC
    go_wp2
    refine bodyPost_ret (results_cell_row rfl _ w5 w.heap.size 41 (tab 32 (dgF d)) (0, 0) _ rfl HR5.out und32 rfl (by rw [size32, tab_size])) rfl ?_
    exact ⟨HKW.out, .inl ⟨rfl, ⟨_, rfl, by unfold digV; rfl⟩, HX.out⟩⟩
end Go.Proofs.YtkajeepbelfpiaaGreatDoor
/- What is taken of bytes as a record. -/
set_option maxRecDepth 100000
namespace Go.Proofs.YtkajeepbelfpiaaGreatDoor
open Go Go.RowKit

attribute [-go_sem] Sha.exec_store
set_option maxHeartbeats 1000000 in
theorem number10_any (p : Option Addr) (N : Nat) (w : World) (a : Addr) (l : By) (h : RdP p N w a l) : Calls Tryz.prog 235 #[.pointer (some a)] w (RdPost RdP ThrP p N w a l (takeI l maxT).2.2 (takeI l maxT).2.1 fun v _ => v = .int .i64 ((takeI l maxT).1 : Int)) := by
  have HN := Lib.hid (rdP_number p N w a l 9223372036854775807 h)
  clear h
  show Calls Tryz.prog _ _ _ (RdPost RdP ThrP p N w a l (takeI l 9223372036854775807).2.2 (takeI l 9223372036854775807).2.1 fun v _ => v = .int .i64 ((takeI l 9223372036854775807).1 : Int))
  obtain ⟨y, hy⟩ : ∃ y, takeI l 9223372036854775807 = y := ⟨_, rfl⟩
  obtain ⟨x, k, c⟩ := y
  rw [hy] at HN ⊢
  clear hy
  go_enter Tryz.func235, Tryz.ntmps235
  go_wp2_with fail
  refine HN.out.mono ?_
  rintro e w' ⟨hK, ⟨hc, ⟨v, rfl, rfl⟩, hR⟩ | ⟨hc, v, hv, rfl⟩⟩
  · have HX := Lib.hid (And.intro hK (And.intro hc hR))
    clear hK hc hR
    go_wp2
    go_ret
    exact ⟨HX.out.1, .inl ⟨HX.out.2.1, ⟨_, rfl, rfl⟩, HX.out.2.2⟩⟩
  · exact ⟨rfl, hK, .inr ⟨hc, v, hv, rfl⟩⟩
/-- A record that was taken, as a value. -/
def RcT.rc (r : RcT) (q : Option Addr) (cap : Nat) : Rc := ⟨pS r.path, (r.size : Int), (r.time : Int), (r.chg : Int), r.ver, r.dead, r.whole, q, r.ds.length, cap⟩
/-- What take tells. -/
def TakeRcPost (p : Option Addr) (N : Nat) (w : World) (a : Addr) (x : Except Nat (RcT × By)) (e : Ending) (w' : World) : Prop :=
  Kp a.block w w' ∧ match x with
    | .ok (r, rest) => (∃ q cap, e = .returned (rcV (r.rc q cap)) ∧ DgAt w' (r.rc q cap) r.ds ∧ ∀ c o, q = some ⟨c, o, none⟩ → w.heap.size ≤ c) ∧ RdP p N w' a rest
    | .error c => c ≠ 0 ∧ Thrown (ThrP a) c e w'
theorem rdP_keepM {p : Option Addr} {N : Nat} {x y : World} {a : Addr} {l : By} (h : RdP p N x a l) {M : Nat} (ha : a.block < M) (k : Below M x y) : RdP p N y a l :=
  rdP_stay _ _ _ _ _ _ h k.size (k.block _ ha) fun c o _ hc => k.block _ (by have := rdP_lie _ _ _ _ _ h; omega)
theorem Kp.newM {b M : Nat} {x y z : World} (h : Kp b x y) (k : Below M y z) (hM : x.heap.size ≤ M) : Kp b x z :=
  ⟨k.os.trans h.os, k.tape.trans h.tape, k.output.trans h.output, Nat.le_trans h.size k.size, fun i hi hb => (k.block i (by omega)).trans (h.block i hi hb)⟩
theorem nextI_code {l : By} {most : Int} {x : It} {k c : Nat} (h : nextI l 4 most = (x, k, c)) : (c = 0 → x.b = l.take 32 ∧ k = 32 ∧ 32 ≤ l.length) ∧ (c ≠ 0 → c = 6 ∧ l.length < 32) := by
  unfold nextI at h
  rw [if_neg (by decide), if_pos rfl] at h
  split at h
  · injection h with h1 h2
    injection h2 with h2 h3
    subst h1 h2 h3
    exact ⟨(fun e => by cases e), fun _ => ⟨rfl, by assumption⟩⟩
  · injection h with h1 h2
    injection h2 with h2 h3
    subst h1 h2 h3
    exact ⟨fun _ => ⟨rfl, rfl, by omega⟩, fun e => absurd rfl e⟩
theorem exec_loadP2 (r : Operand → Value) (dst : Option Tmp) (p : Operand) (ty : TypeId) (pos : String) (after : Array Edge) (guard : Option (Nat × Bool)) :
    execOp r ⟨dst, .load 44 p, ty, pos, after, guard⟩ = ldT 44 (r p) := rfl
theorem bdP4d (p : S8) (s t c : Int) (f : Nat → Int) (d : Bool) (w : World) :
    (bdT 44 #[(0, .string (mkS p)), (1, stV s t c), (2, vcV f), (3, .bool d)]).run Tryz.prog w = .ok (.value (rcV ⟨p, s, t, c, f, d, z32, none, 0, 0⟩)) w := by
  unfold rcV vcV stV
  kernel_rfl
theorem takeI_le {l : By} {n k : Nat} {most : Int} (h : takeI l most = (n, k, 0)) : (n : Int) ≤ most := by
  unfold takeI at h
  split at h
  · injection h with _ h; injection h with _ h; cases h
  · split at h
    · injection h with _ h; injection h with _ h; cases h
    · rename_i hm
      injection h with h1 h2
      subst h1
      omega
theorem setB53 {w : World} {b : Nat} {T : TypeId} {p : S8} {s t c : Int} {f : Nat → Int} {d : Bool} {wh : By} {q : Option Addr} {n cap : Nat} (h : Row w b T 54 (rcF ⟨p, s, t, c, f, d, wh, q, n, cap⟩)) (q' : Option Addr) (n' cap' : Nat) : Row (w.setCell ⟨b, 53, none⟩ (.slice q' n' cap')) b T 54 (rcF ⟨p, s, t, c, f, d, wh, q', n', cap'⟩) := by
  refine (h.set 53 (.slice q' n' cap')).congr fun i hi => ?_
  by_cases i1 : i = 53
  · rw [if_pos i1, i1]; rfl
  · rw [if_neg i1]
    unfold rcF
    repeat (first | rfl | (split; rfl))
    all_goals (first | rfl | omega)
attribute [local go_sem ↓] exec_boxA exec_loadA exec_indexA exec_allocA exec_storeA exec_buildA exec_eqlA exec_neqA exec_boxV exec_loadV exec_indexV exec_allocV exec_storeV exec_buildV exec_eqlV exec_neqV
attribute [local go_sem] boxA indexA storeNewA buildA eqlA neqA boxV indexV storeNewV buildV eqlV neqV

attribute [local go_sem ↓] exec_loadS exec_boxS exec_boxP exec_allocP exec_storeP exec_buildP exec_buildS exec_load32 exec_build32 exec_loadP2 exec_store32F exec_bs
attribute [local go_sem] box_stamp boxP bd32 bdS3 bsD1
set_option maxRecDepth 100000 in
set_option maxHeartbeats 16000000 in
theorem take10_any (p : Option Addr) (N : Nat) (w : World) (a : Addr) (l : By) (h : RdP p N w a l) : Calls Tryz.prog 214 #[.pointer (some a)] w (TakeRcPost p N w a (takeRc l)) := by
  obtain ⟨T, hT⟩ : ∃ T, takeRc l = T := ⟨_, rfl⟩
  rw [hT]
  unfold takeRc at hT
  have hlie := rdP_lie _ _ _ _ _ h
  obtain ⟨M, hM⟩ : ∃ M, w.heap.size = M := ⟨_, rfl⟩
  obtain ⟨w0, hW0⟩ : ∃ W, w.alloc (.cells (tab 54 (rcF rc0)) 44) = W := ⟨_, rfl⟩
  have hB0 : Below w.heap.size w w0 := by rw [← hW0]; exact below_newD _ _
  have hR0 : Row w0 M 44 54 (rcF rc0) := by rw [← hM, ← hW0]; exact Row.new _ _ 54 _
  have HLI := Lib.hid (show a.block < M ∧ M = w.heap.size ∧ M < w0.heap.size from ⟨by rw [← hM]; exact hlie.2, hM.symm, hR0.lt⟩)
  have HR0 := Lib.hid (rdP_below h hB0)
  have HKA := Lib.hid ((Kp.refl a.block w).of_below hB0)
  have HK0 := Lib.hid (Kp.refl a.block w0)
  have HROW := Lib.hid (fun (u : World) (hu : Kp a.block w0 u) => hR0.of_kp hu (show M ≠ a.block by have := HLI.out; omega))
  have HCT := Lib.hid (fun (u : World) => (show Calls Tryz.prog 103 #[.int .i64 16384] u fun e w' => e = .returned (.int .i64 64) ∧ w' = u from by
    have e : nblk 16384 = 64 := by decide
    have h1 : Calls Tryz.prog 103 #[.int .i64 ((16384 : Nat) : Int)] u _ := count_any 16384 u (by decide)
    rw [e] at h1
    exact h1.mono fun e w' ⟨h1, h2⟩ => ⟨h1, by rw [h2]⟩))
  clear hlie hB0 hR0 h
  go_enter Tryz.func214, Tryz.ntmps214
  try rw [hM]
  obtain ⟨y, hy⟩ : ∃ y, nextI l 2 100 = y := ⟨_, rfl⟩
  obtain ⟨x, k, c⟩ := y
  have HC := Lib.hid (rdP_text p N w0 a l 100 HR0.out)
  rw [hy] at HC hT
  try dsimp only at HC
  by_cases hc : c = 0
  · subst hc
    rw [stp_ok rfl] at hT
    try dsimp only at hT
    have HE_l1 := Lib.hid hy
    obtain ⟨l1, hl⟩ : ∃ l', l.drop k = l' := ⟨_, rfl⟩
    rw [hl] at hT
    have HLD := Lib.hid hl
    have HT := Lib.hid hT
    clear hT hl hy
    go_wp2_with fail
    refine HC.out.mono ?_
    rintro e w1 ⟨hK, ⟨-, ⟨v, rfl, hval⟩, hR⟩ | ⟨hcc, -⟩⟩
    · rw [HLD.out] at hR
      have HK_l1 := Lib.hid (HK0.out.trans hK)
      have HKD_l1 := Lib.hid hK
      have HR_l1 := Lib.hid hR
      have hT := HT.out
      rw [strOf_pS] at hval
      clear HC HT hK hR HLD
      subst hval
      obtain ⟨y, hy⟩ : ∃ y, takeI l1 maxT = y := ⟨_, rfl⟩
      obtain ⟨s, k, c⟩ := y
      have HC := Lib.hid (number10_any p N w1 a l1 HR_l1.out)
      rw [hy] at HC hT
      try dsimp only at HC
      by_cases hc : c = 0
      · subst hc
        rw [stp_ok rfl] at hT
        try dsimp only at hT
        have HE_l2 := Lib.hid hy
        obtain ⟨l2, hl⟩ : ∃ l', l1.drop k = l' := ⟨_, rfl⟩
        rw [hl] at hT
        have HLD := Lib.hid hl
        have HT := Lib.hid hT
        clear hT hl hy
        go_wp2_with fail
        refine HC.out.mono ?_
        rintro e w2 ⟨hK, ⟨-, ⟨v, rfl, hval⟩, hR⟩ | ⟨hcc, -⟩⟩
        · rw [HLD.out] at hR
          have HK_l2 := Lib.hid (HK_l1.out.trans hK)
          have HKD_l2 := Lib.hid hK
          have HR_l2 := Lib.hid hR
          have hT := HT.out
          clear HC HT hK hR HLD
          subst hval
          obtain ⟨y, hy⟩ : ∃ y, takeI l2 maxT = y := ⟨_, rfl⟩
          obtain ⟨t, k, c⟩ := y
          have HC := Lib.hid (number10_any p N w2 a l2 HR_l2.out)
          rw [hy] at HC hT
          try dsimp only at HC
          by_cases hc : c = 0
          · subst hc
            rw [stp_ok rfl] at hT
            try dsimp only at hT
            have HE_l3 := Lib.hid hy
            obtain ⟨l3, hl⟩ : ∃ l', l2.drop k = l' := ⟨_, rfl⟩
            rw [hl] at hT
            have HLD := Lib.hid hl
            have HT := Lib.hid hT
            clear hT hl hy
            go_wp2_with fail
            refine HC.out.mono ?_
            rintro e w3 ⟨hK, ⟨-, ⟨v, rfl, hval⟩, hR⟩ | ⟨hcc, -⟩⟩
            · rw [HLD.out] at hR
              have HK_l3 := Lib.hid (HK_l2.out.trans hK)
              have HKD_l3 := Lib.hid hK
              have HR_l3 := Lib.hid hR
              have hT := HT.out
              clear HC HT hK hR HLD
              subst hval
              obtain ⟨y, hy⟩ : ∃ y, takeI l3 maxT = y := ⟨_, rfl⟩
              obtain ⟨ch, k, c⟩ := y
              have HC := Lib.hid (number10_any p N w3 a l3 HR_l3.out)
              rw [hy] at HC hT
              try dsimp only at HC
              by_cases hc : c = 0
              · subst hc
                rw [stp_ok rfl] at hT
                try dsimp only at hT
                have HE_l4 := Lib.hid hy
                obtain ⟨l4, hl⟩ : ∃ l', l3.drop k = l' := ⟨_, rfl⟩
                rw [hl] at hT
                have HLD := Lib.hid hl
                have HT := Lib.hid hT
                clear hT hl hy
                go_wp2_with fail
                refine HC.out.mono ?_
                rintro e w4 ⟨hK, ⟨-, ⟨v, rfl, hval⟩, hR⟩ | ⟨hcc, -⟩⟩
                · rw [HLD.out] at hR
                  have HK_l4 := Lib.hid (HK_l3.out.trans hK)
                  have HKD_l4 := Lib.hid hK
                  have HR_l4 := Lib.hid hR
                  have hT := HT.out
                  clear HC HT hK hR HLD
                  subst hval
                  obtain ⟨y, hy⟩ : ∃ y, takeV l4 = y := ⟨_, rfl⟩
                  have HC := Lib.hid (take9_any p N w4 a l4 HR_l4.out)
                  rw [hy] at HC hT
                  cases y with
                  | none =>
                    dsimp only at hT
                    subst hT
                    clear hy
                    go_wp2_with fail
                    refine HC.out.mono ?_
                    rintro e wx ⟨hK, v, hv, rfl⟩
                    exact ⟨rfl, (HKA.out.trans HK_l4.out).trans hK, by decide, v, hv, rfl⟩
                  | some fr =>
                    obtain ⟨f, l5⟩ := fr
                    dsimp only at hT
                    have HT := Lib.hid hT
                    clear hT hy
                    go_wp2_with fail
                    refine HC.out.mono ?_
                    rintro e w5 ⟨hK, rfl, hR⟩
                    have HK_l5 := Lib.hid (HK_l4.out.trans hK)
                    have HR_l5 := Lib.hid hR
                    have hT := HT.out
                    clear HC HT hK hR
                    obtain ⟨y, hy⟩ : ∃ y, nextI l5 3 0 = y := ⟨_, rfl⟩
                    obtain ⟨d0, k, c⟩ := y
                    have HC := Lib.hid (rdP_truth p N w5 a l5 HR_l5.out)
                    rw [hy] at HC hT
                    try dsimp only at HC
                    by_cases hc : c = 0
                    · subst hc
                      rw [stp_ok rfl] at hT
                      try dsimp only at hT
                      have HE_l6 := Lib.hid hy
                      obtain ⟨l6, hl⟩ : ∃ l', l5.drop k = l' := ⟨_, rfl⟩
                      rw [hl] at hT
                      have HLD := Lib.hid hl
                      have HT := Lib.hid hT
                      clear hT hl hy
                      go_wp2_with fail
                      refine HC.out.mono ?_
                      rintro e w6 ⟨hK, ⟨-, ⟨v, rfl, hval⟩, hR⟩ | ⟨hcc, -⟩⟩
                      · rw [HLD.out] at hR
                        have HK_l6 := Lib.hid (HK_l5.out.trans hK)
                        have HKD_l6 := Lib.hid hK
                        have HR_l6 := Lib.hid hR
                        have hT := HT.out
                        clear HC HT hK hR HLD
                        subst hval
                        obtain ⟨tt, htt⟩ : ∃ tt : Bool, decide (d0.n = 1) = tt := ⟨_, rfl⟩
                        rw [htt]
                        have hbd := fun u => bdP4d (pS x.b) (s : Int) (t : Int) (ch : Int) f tt u
                        obtain ⟨W7, hW7⟩ : ∃ W, w6.alloc (.cells (tab 54 (rcF ⟨pS x.b, (s : Int), (t : Int), (ch : Int), f, tt, z32, none, 0, 0⟩)) 44) = W := ⟨_, rfl⟩
                        have hst7 := storeNewP w6 w6.heap.size 44 (rcF rc0) ⟨pS x.b, (s : Int), (t : Int), (ch : Int), f, tt, z32, none, 0, 0⟩ rfl
                        rw [hW7] at hst7
                        have hB7 : Below w6.heap.size w6 W7 := by rw [← hW7]; exact below_newD _ _
                        have hR7 : Row W7 w6.heap.size 44 54 (rcF ⟨pS x.b, (s : Int), (t : Int), (ch : Int), f, tt, z32, none, 0, 0⟩) := by rw [← hW7]; exact Row.new _ _ 54 _
                        have hz7 : w6.heap.size + 1 ≤ W7.heap.size := by rw [← hW7, World.size_alloc]; exact Nat.le_refl _
                        obtain ⟨b3, hb3⟩ : ∃ b, w6.heap.size = b := ⟨_, rfl⟩
                        have HBD := Lib.hid (show a.block < M ∧ M = w.heap.size ∧ M < b3 ∧ w0.heap.size ≤ b3 from ⟨HLI.out.1, HLI.out.2.1, by rw [← hb3]; exact Nat.lt_of_lt_of_le HLI.out.2.2 HK_l6.out.size, by rw [← hb3]; exact HK_l6.out.size⟩)
                        have HK7 := Lib.hid (HK_l6.out.of_below hB7)
                        have HR7 := Lib.hid (rdP_below HR_l6.out hB7)
                        rw [hb3] at hst7 hR7 hz7
                        have HSZ7 := Lib.hid hz7
                        have HRW7 := Lib.hid hR7
                        have hcd := rc_dead hR7
                        dsimp only at hcd
                        clear hB7 hz7
                        cases tt with
                        | true =>
                          have h1 : d0.n = 1 := by simpa using htt
                          rw [if_pos h1] at hT
                          subst hT
                          have l1 := loadRT rtP hR7
                          obtain ⟨u, hst, hRU, hKU⟩ := storeRT rtP (HROW.out W7 HK7.out) ⟨pS x.b, (s : Int), (t : Int), (ch : Int), f, true, z32, none, 0, 0⟩
                          have HRU := Lib.hid hRU
                          have HFIN := Lib.hid (show Kp a.block w u ∧ RdP p N u a l6 from ⟨(HKA.out.trans HK7.out).high hKU (by have := HBD.out; omega), rdP_high HR7.out hKU (by have := HBD.out; omega)⟩)
                          clear hR7 htt h1 hRU hKU
                          go_wp2
                          refine bodyPost_ret (resR rtP rfl _ u M 44 _ rfl HRU.out) rfl ?_
                          exact ⟨HFIN.out.1, ⟨none, 0, rfl, dg_nil _ _ rfl rfl rfl z32_len, fun c o e => by cases e⟩, HFIN.out.2⟩
                        | false =>
                          have h1 : ¬ d0.n = 1 := by simpa using htt
                          rw [if_neg h1] at hT
                          clear hR7 htt h1
                          obtain ⟨y, hy⟩ : ∃ y, nextI l6 4 0 = y := ⟨_, rfl⟩
                          obtain ⟨dg, k, c⟩ := y
                          have HC := Lib.hid (rdP_digest p N W7 a l6 HR7.out)
                          rw [hy] at HC hT
                          try dsimp only at HC
                          by_cases hc : c = 0
                          · subst hc
                            rw [stp_ok rfl] at hT
                            try dsimp only at hT
                            have HE_l7 := Lib.hid hy
                            obtain ⟨l7, hl⟩ : ∃ l', l6.drop k = l' := ⟨_, rfl⟩
                            rw [hl] at hT
                            have HLD := Lib.hid hl
                            have HT := Lib.hid hT
                            clear hT hl hy
                            go_wp2_with fail
                            refine HC.out.mono ?_
                            rintro e w8 ⟨hK, ⟨-, ⟨v, rfl, hval⟩, hR⟩ | ⟨hcc, -⟩⟩
                            · rw [HLD.out] at hR
                              have HK_l7 := Lib.hid (HK7.out.trans hK)
                              have HKD_l7 := Lib.hid hK
                              have HR_l7 := Lib.hid hR
                              have hT := HT.out
                              clear HC HT hK hR HLD
                              subst hval
                              have hlen : dg.b.length = 32 := by have := (nextI_code HE_l7.out).1 rfl; rw [this.1, List.length_take]; omega
                              have HDL8 := Lib.hid hlen
                              obtain ⟨u8, hst8, hR8', hK8'⟩ := st_whole (HRW7.out.of_kp (HKD_l7.out) (by have := HBD.out; omega)) dg.b hlen
                              have HRWu := Lib.hid (show Row u8 b3 44 54 (rcF ⟨pS x.b, (s : Int), (t : Int), (ch : Int), f, false, dg.b, none, 0, 0⟩) from hR8')
                              have HR8p := Lib.hid (rdP_high HR_l7.out hK8' (by have := HBD.out; omega))
                              have HK8p := Lib.hid (HK_l7.out.high hK8' (by have := HBD.out; omega))
                              have HSZu := Lib.hid (show b3 + 1 ≤ u8.heap.size from Nat.le_trans HSZ7.out (Nat.le_trans HKD_l7.out.size hK8'.size))
                              clear hlen hR8' hK8'
                              obtain ⟨y, hy⟩ : ∃ y, takeI l7 64 = y := ⟨_, rfl⟩
                              obtain ⟨m, k, c⟩ := y
                              have HC := Lib.hid (rdP_count p N u8 a l7 64 HR8p.out)
                              rw [hy] at HC hT
                              try dsimp only at HC
                              by_cases hc : c = 0
                              · subst hc
                                rw [stp_ok rfl] at hT
                                try dsimp only at hT
                                have HE_l8 := Lib.hid hy
                                obtain ⟨l8, hl⟩ : ∃ l', l7.drop k = l' := ⟨_, rfl⟩
                                rw [hl] at hT
                                have HLD := Lib.hid hl
                                have HT := Lib.hid hT
                                clear hT hl hy
                                go_wp2_with fail
                                clear hst8
                                refine (HCT.out _).mono ?_
                                rintro e wc ⟨rfl, rfl⟩
                                go_wp2_with fail
                                refine HC.out.mono ?_
                                rintro e w9 ⟨hK, ⟨-, ⟨v, rfl, hval⟩, hR⟩ | ⟨hcc, -⟩⟩
                                · rw [HLD.out] at hR
                                  have HK_l8 := Lib.hid (HK8p.out.trans hK)
                                  have HKD_l8 := Lib.hid hK
                                  have HR_l8 := Lib.hid hR
                                  have hT := HT.out
                                  clear HC HT hK hR HLD
                                  subst hval
                                  have HM64 := Lib.hid (takeI_le HE_l8.out)
                                  have HR8 := Lib.hid HR_l8.out
                                  have HRW8 := Lib.hid (HRWu.out.of_kp HKD_l8.out (by have := HBD.out; omega))
                                  have HK8w := Lib.hid HK_l8.out
                                  have HK8 := Lib.hid (HKA.out.trans HK_l8.out)
                                  have HSZ8 := Lib.hid (Nat.le_trans HSZu.out HKD_l8.out.size)
                                  have HT := Lib.hid hT
                                  clear hT
                                  have hT := HT.out
                                  try dsimp only at hT
                                  have HTT := Lib.hid hT
                                  clear hT
                                  go_wp2
                                  go_loopw [27] (fun i wr => ∃ (k : Nat) (dn : List By) (li : By) (q : Option Addr) (cap : Nat), k ≤ m ∧ i = .int .i64 (k : Int) ∧ dn.length = k ∧ (∀ d ∈ dn, d.length = 32) ∧ digsN m l8 = (digsN (m - k) li).map (fun x => (dn ++ x.1, x.2)) ∧ RdP p N wr a li ∧ wr.ownsRow (b3 + 1) 41 32 (.slice q k cap) k (dn.flatMap digC) ∧ Row wr b3 44 54 (rcF ⟨pS x.b, (s : Int), (t : Int), (ch : Int), f, false, dg.b, q, k, cap⟩) ∧ Row wr M 44 54 (rcF rc0) ∧ Kp a.block w wr ∧ b3 + 1 ≤ wr.heap.size) (fun i _ => m - (intOf i).toNat)
                                  case atStart => exact ⟨0, [], l8, none, 0, Nat.zero_le _, rfl, rfl, (fun d hd => by cases hd), by rw [Nat.sub_zero]; cases digsN m l8 <;> simp, HR8.out, ⟨rfl, .inl ⟨rfl, rfl⟩⟩, HRW8.out, HROW.out _ HK8w.out, HK8.out, HSZ8.out⟩
                                  case round =>
                                    obtain ⟨k, dn, li, q, cap, hkm, rfl, hdn, hdn2, hnx, hR, hO, hRW, hR0, hK, hsz⟩ := hrel
                                    have HDN := Lib.hid (And.intro hdn hdn2)
                                    have HNX := Lib.hid hnx
                                    have HX0 := Lib.hid (show RdP p N wr.drew a li ∧ wr.drew.ownsRow (b3 + 1) 41 32 (.slice q k cap) k (dn.flatMap digC) ∧ Row wr.drew b3 44 54 (rcF ⟨pS x.b, (s : Int), (t : Int), (ch : Int), f, false, dg.b, q, k, cap⟩) ∧ Row wr.drew M 44 54 (rcF rc0) ∧ Kp a.block w wr.drew ∧ b3 + 1 ≤ wr.drew.heap.size from ⟨rdP_below hR (Below.refl _ _).drew, hO, hRW.drew, hR0.drew, hK.drewN 1, hsz⟩)
                                    by_cases hlt : k < m
                                    · have z1 : (k : Int) < (m : Int) := by omega
                                      have z2 : decide ((k : Int) < (m : Int)) = true := decide_eq_true z1
                                      have hw6 : IntKind.i64.wrap ((k : Int) + 1) = (k : Int) + 1 := by rw [IntKind.wrap_i64]; have := HM64.out; omega
                                      obtain ⟨j, hj⟩ : ∃ j, m - k = j + 1 := ⟨m - k - 1, by omega⟩
                                      have hj2 : m - (k + 1) = j := by omega
                                      obtain ⟨y, hy⟩ : ∃ y, nextI li 4 0 = y := ⟨_, rfl⟩
                                      obtain ⟨dx, k4, c4⟩ := y
                                      have hcode := nextI_code hy
                                      have HDG := Lib.hid (fun (u : World) (hu : RdP p N u a li) => (show Calls Tryz.prog 141 #[.pointer (some a)] u (RdPost RdP ThrP p N u a li c4 k4 fun v _ => v = digV dx.b) from by have := rdP_digest p N u a li hu; rw [hy] at this; exact this))
                                      rw [hj] at hnx
                                      by_cases hc4 : c4 = 0
                                      · subst hc4
                                        obtain ⟨e1, e2, e3⟩ := hcode.1 rfl
                                        subst e2
                                        rw [digsN, if_neg (by omega)] at hnx
                                        obtain ⟨d, hd⟩ : ∃ d, dx.b = d := ⟨_, rfl⟩
                                        rw [hd] at HDG e1
                                        obtain ⟨li2, hli2⟩ : ∃ l', li.drop 32 = l' := ⟨_, rfl⟩
                                        rw [hli2, ← e1] at hnx
                                        have HLI2 := Lib.hid hli2
                                        have hdl : d.length = 32 := by rw [e1, List.length_take]; omega
                                        have HDL := Lib.hid hdl
                                        have HNX := Lib.hid (show digsN m l8 = (digsN (m - (k + 1)) li2).map (fun x => (dn ++ [d] ++ x.1, x.2)) from by rw [hnx, hj2]; cases digsN j li2 <;> simp)
                                        have HDN2 := Lib.hid (show ∀ y ∈ dn ++ [d], y.length = 32 from fun y hy => by
                                          rcases List.mem_append.1 hy with h | h
                                          · exact hdn2 y h
                                          · rw [List.mem_singleton] at h; rw [h]; exact hdl)
                                        have HK8 := Lib.hid (show k + 1 < 100000000 by have := HM64.out; omega)
                                        have HSK := Lib.hid (fun (z1 z2 : World) (hx : RdP p N z1 a li ∧ z1.ownsRow (b3 + 1) 41 32 (.slice q k cap) k (dn.flatMap digC) ∧ Row z1 b3 44 54 (rcF ⟨pS x.b, (s : Int), (t : Int), (ch : Int), f, false, dg.b, q, k, cap⟩) ∧ Row z1 M 44 54 (rcF rc0) ∧ Kp a.block w z1 ∧ b3 + 1 ≤ z1.heap.size) (hk : Kp a.block z1 z2) (hr : RdP p N z2 a li2) => (show RdP p N z2 a li2 ∧ z2.ownsRow (b3 + 1) 41 32 (.slice q k cap) k (dn.flatMap digC) ∧ Row z2 b3 44 54 (rcF ⟨pS x.b, (s : Int), (t : Int), (ch : Int), f, false, dg.b, q, k, cap⟩) ∧ Row z2 M 44 54 (rcF rc0) ∧ Kp a.block w z2 ∧ b3 + 1 ≤ z2.heap.size from
                                          ⟨hr, own_keep hx.2.1 (fun g hg => hk.block g (hx.2.1.lt g hg).2 (by have := (hx.2.1.lt g hg).1; have := HBD.out; omega)), hx.2.2.1.of_kp hk (by have := HBD.out; omega), hx.2.2.2.1.of_kp hk (by have := HBD.out; omega), hx.2.2.2.2.1.trans hk, Nat.le_trans hx.2.2.2.2.2 hk.size⟩))
                                        have HSA := Lib.hid (fun (z1 z2 : World) (hx : RdP p N z1 a li2 ∧ z1.ownsRow (b3 + 1) 41 32 (.slice q k cap) k (dn.flatMap digC) ∧ Row z1 b3 44 54 (rcF ⟨pS x.b, (s : Int), (t : Int), (ch : Int), f, false, dg.b, q, k, cap⟩) ∧ Row z1 M 44 54 (rcF rc0) ∧ Kp a.block w z1 ∧ b3 + 1 ≤ z1.heap.size) (hb : Below z1.heap.size z1 z2) => (show RdP p N z2 a li2 ∧ z2.ownsRow (b3 + 1) 41 32 (.slice q k cap) k (dn.flatMap digC) ∧ Row z2 b3 44 54 (rcF ⟨pS x.b, (s : Int), (t : Int), (ch : Int), f, false, dg.b, q, k, cap⟩) ∧ Row z2 M 44 54 (rcF rc0) ∧ Kp a.block w z2 ∧ b3 + 1 ≤ z2.heap.size from
                                          ⟨rdP_below hx.1 hb, own_below hx.2.1 hb, hx.2.2.1.of_below hb, hx.2.2.2.1.of_below hb, hx.2.2.2.2.1.of_below hb, Nat.le_trans hx.2.2.2.2.2 hb.size⟩))
                                        have HSB := Lib.hid (fun (z1 z2 : World) (q5 : Option Addr) (c5 : Nat) (hx : RdP p N z1 a li2 ∧ z1.ownsRow (b3 + 1) 41 32 (.slice q k cap) k (dn.flatMap digC) ∧ Row z1 b3 44 54 (rcF ⟨pS x.b, (s : Int), (t : Int), (ch : Int), f, false, dg.b, q, k, cap⟩) ∧ Row z1 M 44 54 (rcF rc0) ∧ Kp a.block w z1 ∧ b3 + 1 ≤ z1.heap.size) (ho : z2.ownsRow (b3 + 1) 41 32 (.slice q5 (k + 1) c5) (k + 1) (dn.flatMap digC ++ digC d)) (hb : Below (b3 + 1) z1 z2) => (show RdP p N z2 a li2 ∧ z2.ownsRow (b3 + 1) 41 32 (.slice q5 (k + 1) c5) (k + 1) ((dn ++ [d]).flatMap digC) ∧ Row z2 b3 44 54 (rcF ⟨pS x.b, (s : Int), (t : Int), (ch : Int), f, false, dg.b, q, k, cap⟩) ∧ Row z2 M 44 54 (rcF rc0) ∧ Kp a.block w z2 ∧ b3 + 1 ≤ z2.heap.size from
                                          ⟨rdP_keepM hx.1 (by have := HBD.out; omega) hb, by rw [List.flatMap_append]; simpa using ho, hx.2.2.1.below hb (by omega), hx.2.2.2.1.below hb (by have := HBD.out; omega), hx.2.2.2.2.1.newM hb (by have := HBD.out; omega), Nat.le_trans hx.2.2.2.2.2 hb.size⟩))
                                        have HSC := Lib.hid (fun (z1 : World) (q5 : Option Addr) (c5 : Nat) (hx : RdP p N z1 a li2 ∧ z1.ownsRow (b3 + 1) 41 32 (.slice q5 (k + 1) c5) (k + 1) ((dn ++ [d]).flatMap digC) ∧ Row z1 b3 44 54 (rcF ⟨pS x.b, (s : Int), (t : Int), (ch : Int), f, false, dg.b, q, k, cap⟩) ∧ Row z1 M 44 54 (rcF rc0) ∧ Kp a.block w z1 ∧ b3 + 1 ≤ z1.heap.size) => (show RdP p N (z1.setCell ⟨b3, 53, none⟩ (.slice q5 (k + 1) c5)) a li2 ∧ (z1.setCell ⟨b3, 53, none⟩ (.slice q5 (k + 1) c5)).ownsRow (b3 + 1) 41 32 (.slice q5 (k + 1) c5) (k + 1) ((dn ++ [d]).flatMap digC) ∧ Row (z1.setCell ⟨b3, 53, none⟩ (.slice q5 (k + 1) c5)) b3 44 54 (rcF ⟨pS x.b, (s : Int), (t : Int), (ch : Int), f, false, dg.b, q5, k + 1, c5⟩) ∧ Row (z1.setCell ⟨b3, 53, none⟩ (.slice q5 (k + 1) c5)) M 44 54 (rcF rc0) ∧ Kp a.block w (z1.setCell ⟨b3, 53, none⟩ (.slice q5 (k + 1) c5)) ∧ b3 + 1 ≤ (z1.setCell ⟨b3, 53, none⟩ (.slice q5 (k + 1) c5)).heap.size from by
                                          have hk : Kp b3 z1 (z1.setCell ⟨b3, 53, none⟩ (.slice q5 (k + 1) c5)) := (Kp.refl _ _).setCell 53 _
                                          exact ⟨rdP_high hx.1 hk (by have := HBD.out; omega), own_keep hx.2.1 (fun g hg => hk.block g (hx.2.1.lt g hg).2 (by have := (hx.2.1.lt g hg).1; omega)), setB53 hx.2.2.1 q5 (k + 1) c5, hx.2.2.2.1.of_kp hk (by have := HBD.out; omega), hx.2.2.2.2.1.high hk (by have := HBD.out; omega), Nat.le_trans hx.2.2.2.2.2 hk.size⟩))
                                        clear hR hO hRW hR0 hK hsz hnx hcode hy hdn hdn2 hj hj2 e1 e3 hd hli2 hdl
                                        go_wp2
                                        refine wp_region_noPanic ?_
                                        refine wp_region_any (by kernel_rfl) ?_
                                        try (change wpAny _ _ _ _ _ _ _ (World.drew _))
                                        have HX := Lib.hid (HX0.out)
                                        generalize wr.drew = x at HX ⊢
                                        refine wpAny_take (i := 0) (v := ?_) rfl (by kernel_rfl) (by kernel_rfl) (by kernel_rfl) (fun _ _ _ h => h) (Or.inl ⟨by rfl, ?_⟩) ?_
                                        rotate_left 1
                                        · (intro w; go_simp; try with_reducible rfl)
                                        try simp only [Act.put, List.setIfInBounds_toArray, List.set_cons_zero, List.set_cons_succ]
                                        refine wpAny_take (i := 2) (v := ?_) rfl (by kernel_rfl) (by kernel_rfl) (by kernel_rfl) (fun _ _ _ h => h) (Or.inl ⟨by rfl, ?_⟩) ?_
                                        rotate_left 1
                                        · (intro w; go_simp; try with_reducible rfl)
                                        try simp only [Act.put, List.setIfInBounds_toArray, List.set_cons_zero, List.set_cons_succ]
                                        refine wpAny_ready (rs := [1, 3]) (by kernel_rfl) (by simp) ?_
                                        refine (AllReady.cons (by simp only [List.getElem?_toArray, List.getElem?_cons_succ, List.getElem?_cons_zero]; exact rfl) (fun K hK => ?_) (AllReady.cons (by simp only [List.getElem?_toArray, List.getElem?_cons_succ, List.getElem?_cons_zero]; exact rfl) (fun K hK => ?_) AllReady.nil))
                                        · have hcc := (rc_blocks HX.out.2.2.1)
                                          dsimp only at hcc
                                          go_simp
                                          refine hK _ _ ?_
                                          clear hK K hcc
                                          try simp only [Act.put, List.setIfInBounds_toArray, List.set_cons_zero, List.set_cons_succ]
                                          refine wpAny_ready (rs := [3]) (by kernel_rfl) (by simp) ?_
                                          refine (AllReady.cons (by simp only [List.getElem?_toArray, List.getElem?_cons_succ, List.getElem?_cons_zero]; exact rfl) (fun K hK => ?_) AllReady.nil)
                                          go_simp
                                          refine (HDG.out x HX.out.1).mono ?_
                                          rintro e x3 ⟨hK3, h3⟩
                                          obtain ⟨-, ⟨v, rfl, hval⟩, hR3⟩ := h3.resolve_right (fun h => h.1 rfl)
                                          subst hval
                                          rw [HLI2.out] at hR3
                                          have HX := Lib.hid (HSK.out x x3 HX.out hK3 hR3)
                                          clear hK3 hR3 h3
                                          have HKK := Lib.hid hK
                                          clear hK
                                          go_wp2_with fail
                                          refine HKK.out _ _ ?_
                                          clear HKK K
                                          try simp only [Act.put, List.setIfInBounds_toArray, List.set_cons_zero, List.set_cons_succ]
                                          refine wpAny_ready (rs := [4]) (by kernel_rfl) (by simp) ?_
                                          refine (AllReady.cons (by simp only [List.getElem?_toArray, List.getElem?_cons_succ, List.getElem?_cons_zero]; exact rfl) (fun K hK => ?_) AllReady.nil)
                                          go_simp
                                          obtain ⟨x34, hy⟩ : ∃ y, (x3.alloc (.cells (tab 32 (dgF d)) 41)) = y := ⟨_, rfl⟩
                                          have HLS := Lib.hid (show LsC x34 (some ⟨x3.heap.size, 0, none⟩) (digC d) from by rw [← hy]; exact lsc_dig x3 d HDL.out)
                                          have HX := Lib.hid (HSA.out x3 x34 HX.out (by rw [← hy]; exact below_newD _ _))
                                          refine hK _ _ ?_
                                          clear hK K
                                          rw [hy]
                                          clear hy
                                          try simp only [Act.put, List.setIfInBounds_toArray, List.set_cons_zero, List.set_cons_succ]
                                          refine wpAny_ready (rs := [5]) (by kernel_rfl) (by simp) ?_
                                          refine (AllReady.cons (by simp only [List.getElem?_toArray, List.getElem?_cons_succ, List.getElem?_cons_zero]; exact rfl) (fun K hK => ?_) AllReady.nil)
                                          refine step_appendK elD x34 rfl (.tmp 30) (.tmp 33) rfl (b3 + 1) rfl HX.out.2.1 _ 1 1 (digC d) (by rw [digC_len, HDL.out]) rfl HLS.out (fun h => by cases h) (digC_one _) HK8.out (HX.out.2.2.2.2.2) ?_
                                          rintro v5 x345 hO5 hg5 ho5
                                          obtain ⟨q5, c5, hve⟩ := own_sliceR hO5
                                          subst hve
                                          have hB5 : Below (b3 + 1) x34 x345 := (Below.refl _ _).grown hg5 (HX.out.2.2.2.2.2) (fun g hg => (HX.out.2.1.lt g hg).1)
                                          have HY := Lib.hid (HSB.out x34 x345 q5 c5 HX.out hO5 hB5)
                                          clear hO5 hg5 ho5 hB5
                                          refine hK _ _ ?_
                                          clear hK K
                                          try simp only [Act.put, List.setIfInBounds_toArray, List.set_cons_zero, List.set_cons_succ]
                                          refine wpAny_take (i := 6) (v := ?_) rfl (by kernel_rfl) (by kernel_rfl) (by kernel_rfl) (fun _ _ _ h => h) (Or.inl ⟨by rfl, ?_⟩) ?_
                                          rotate_left 1
                                          · (intro w; go_simp; try with_reducible rfl)
                                          try simp only [Act.put, List.setIfInBounds_toArray, List.set_cons_zero, List.set_cons_succ]
                                          refine wpAny_ready (rs := [7]) (by kernel_rfl) (by simp) ?_
                                          refine (AllReady.cons (by simp only [List.getElem?_toArray, List.getElem?_cons_succ, List.getElem?_cons_zero]; exact rfl) (fun K hK => ?_) AllReady.nil)
                                          have hcc := (rc_blocks HY.out.2.2.1)
                                          dsimp only at hcc
                                          have hcf := (HY.out.2.2.1).free 53
                                          go_simp
                                          refine hK _ _ ?_
                                          clear hK K
                                          have HZ := Lib.hid (HSC.out x345 q5 c5 HY.out)
                                          clear hcc hcf
                                          try simp only [Act.put, List.setIfInBounds_toArray, List.set_cons_zero, List.set_cons_succ]
                                          refine wpAny_done (by kernel_rfl) ?_ _
                                          refine NoPanic.normal ?_
                                          go_wp2
                                          go_roundw
                                          case rel => exact ⟨k + 1, dn ++ [d], li2, q5, c5, by omega, by go_num, by rw [List.length_append, HDN.out.1]; rfl, HDN2.out, HNX.out, HZ.out.1, HZ.out.2.1, HZ.out.2.2.1, HZ.out.2.2.2.1, HZ.out.2.2.2.2.1, HZ.out.2.2.2.2.2⟩
                                          case measure => simp [intOf]; omega
                                        · go_simp
                                          refine (HDG.out x HX.out.1).mono ?_
                                          rintro e x3 ⟨hK3, h3⟩
                                          obtain ⟨-, ⟨v, rfl, hval⟩, hR3⟩ := h3.resolve_right (fun h => h.1 rfl)
                                          subst hval
                                          rw [HLI2.out] at hR3
                                          have HX := Lib.hid (HSK.out x x3 HX.out hK3 hR3)
                                          clear hK3 hR3 h3
                                          have HKK := Lib.hid hK
                                          clear hK
                                          go_wp2_with fail
                                          refine HKK.out _ _ ?_
                                          clear HKK K
                                          try simp only [Act.put, List.setIfInBounds_toArray, List.set_cons_zero, List.set_cons_succ]
                                          refine wpAny_ready (rs := [1, 4]) (by kernel_rfl) (by simp) ?_
                                          refine (AllReady.cons (by simp only [List.getElem?_toArray, List.getElem?_cons_succ, List.getElem?_cons_zero]; exact rfl) (fun K hK => ?_) (AllReady.cons (by simp only [List.getElem?_toArray, List.getElem?_cons_succ, List.getElem?_cons_zero]; exact rfl) (fun K hK => ?_) AllReady.nil))
                                          · have hcc := (rc_blocks HX.out.2.2.1)
                                            dsimp only at hcc
                                            go_simp
                                            refine hK _ _ ?_
                                            clear hK K hcc
                                            try simp only [Act.put, List.setIfInBounds_toArray, List.set_cons_zero, List.set_cons_succ]
                                            refine wpAny_ready (rs := [4]) (by kernel_rfl) (by simp) ?_
                                            refine (AllReady.cons (by simp only [List.getElem?_toArray, List.getElem?_cons_succ, List.getElem?_cons_zero]; exact rfl) (fun K hK => ?_) AllReady.nil)
                                            go_simp
                                            obtain ⟨x34, hy⟩ : ∃ y, (x3.alloc (.cells (tab 32 (dgF d)) 41)) = y := ⟨_, rfl⟩
                                            have HLS := Lib.hid (show LsC x34 (some ⟨x3.heap.size, 0, none⟩) (digC d) from by rw [← hy]; exact lsc_dig x3 d HDL.out)
                                            have HX := Lib.hid (HSA.out x3 x34 HX.out (by rw [← hy]; exact below_newD _ _))
                                            refine hK _ _ ?_
                                            clear hK K
                                            rw [hy]
                                            clear hy
                                            try simp only [Act.put, List.setIfInBounds_toArray, List.set_cons_zero, List.set_cons_succ]
                                            refine wpAny_ready (rs := [5]) (by kernel_rfl) (by simp) ?_
                                            refine (AllReady.cons (by simp only [List.getElem?_toArray, List.getElem?_cons_succ, List.getElem?_cons_zero]; exact rfl) (fun K hK => ?_) AllReady.nil)
                                            refine step_appendK elD x34 rfl (.tmp 30) (.tmp 33) rfl (b3 + 1) rfl HX.out.2.1 _ 1 1 (digC d) (by rw [digC_len, HDL.out]) rfl HLS.out (fun h => by cases h) (digC_one _) HK8.out (HX.out.2.2.2.2.2) ?_
                                            rintro v5 x345 hO5 hg5 ho5
                                            obtain ⟨q5, c5, hve⟩ := own_sliceR hO5
                                            subst hve
                                            have hB5 : Below (b3 + 1) x34 x345 := (Below.refl _ _).grown hg5 (HX.out.2.2.2.2.2) (fun g hg => (HX.out.2.1.lt g hg).1)
                                            have HY := Lib.hid (HSB.out x34 x345 q5 c5 HX.out hO5 hB5)
                                            clear hO5 hg5 ho5 hB5
                                            refine hK _ _ ?_
                                            clear hK K
                                            try simp only [Act.put, List.setIfInBounds_toArray, List.set_cons_zero, List.set_cons_succ]
                                            refine wpAny_take (i := 6) (v := ?_) rfl (by kernel_rfl) (by kernel_rfl) (by kernel_rfl) (fun _ _ _ h => h) (Or.inl ⟨by rfl, ?_⟩) ?_
                                            rotate_left 1
                                            · (intro w; go_simp; try with_reducible rfl)
                                            try simp only [Act.put, List.setIfInBounds_toArray, List.set_cons_zero, List.set_cons_succ]
                                            refine wpAny_ready (rs := [7]) (by kernel_rfl) (by simp) ?_
                                            refine (AllReady.cons (by simp only [List.getElem?_toArray, List.getElem?_cons_succ, List.getElem?_cons_zero]; exact rfl) (fun K hK => ?_) AllReady.nil)
                                            have hcc := (rc_blocks HY.out.2.2.1)
                                            dsimp only at hcc
                                            have hcf := (HY.out.2.2.1).free 53
                                            go_simp
                                            refine hK _ _ ?_
                                            clear hK K
                                            have HZ := Lib.hid (HSC.out x345 q5 c5 HY.out)
                                            clear hcc hcf
                                            try simp only [Act.put, List.setIfInBounds_toArray, List.set_cons_zero, List.set_cons_succ]
                                            refine wpAny_done (by kernel_rfl) ?_ _
                                            refine NoPanic.normal ?_
                                            go_wp2
                                            go_roundw
                                            case rel => exact ⟨k + 1, dn ++ [d], li2, q5, c5, by omega, by go_num, by rw [List.length_append, HDN.out.1]; rfl, HDN2.out, HNX.out, HZ.out.1, HZ.out.2.1, HZ.out.2.2.1, HZ.out.2.2.2.1, HZ.out.2.2.2.2.1, HZ.out.2.2.2.2.2⟩
                                            case measure => simp [intOf]; omega
                                          · go_simp
                                            obtain ⟨x34, hy⟩ : ∃ y, (x3.alloc (.cells (tab 32 (dgF d)) 41)) = y := ⟨_, rfl⟩
                                            have HLS := Lib.hid (show LsC x34 (some ⟨x3.heap.size, 0, none⟩) (digC d) from by rw [← hy]; exact lsc_dig x3 d HDL.out)
                                            have HX := Lib.hid (HSA.out x3 x34 HX.out (by rw [← hy]; exact below_newD _ _))
                                            refine hK _ _ ?_
                                            clear hK K
                                            rw [hy]
                                            clear hy
                                            try simp only [Act.put, List.setIfInBounds_toArray, List.set_cons_zero, List.set_cons_succ]
                                            refine wpAny_ready (rs := [1]) (by kernel_rfl) (by simp) ?_
                                            refine (AllReady.cons (by simp only [List.getElem?_toArray, List.getElem?_cons_succ, List.getElem?_cons_zero]; exact rfl) (fun K hK => ?_) AllReady.nil)
                                            have hcc := (rc_blocks HX.out.2.2.1)
                                            dsimp only at hcc
                                            go_simp
                                            refine hK _ _ ?_
                                            clear hK K hcc
                                            try simp only [Act.put, List.setIfInBounds_toArray, List.set_cons_zero, List.set_cons_succ]
                                            refine wpAny_ready (rs := [5]) (by kernel_rfl) (by simp) ?_
                                            refine (AllReady.cons (by simp only [List.getElem?_toArray, List.getElem?_cons_succ, List.getElem?_cons_zero]; exact rfl) (fun K hK => ?_) AllReady.nil)
                                            refine step_appendK elD x34 rfl (.tmp 30) (.tmp 33) rfl (b3 + 1) rfl HX.out.2.1 _ 1 1 (digC d) (by rw [digC_len, HDL.out]) rfl HLS.out (fun h => by cases h) (digC_one _) HK8.out (HX.out.2.2.2.2.2) ?_
                                            rintro v5 x345 hO5 hg5 ho5
                                            obtain ⟨q5, c5, hve⟩ := own_sliceR hO5
                                            subst hve
                                            have hB5 : Below (b3 + 1) x34 x345 := (Below.refl _ _).grown hg5 (HX.out.2.2.2.2.2) (fun g hg => (HX.out.2.1.lt g hg).1)
                                            have HY := Lib.hid (HSB.out x34 x345 q5 c5 HX.out hO5 hB5)
                                            clear hO5 hg5 ho5 hB5
                                            refine hK _ _ ?_
                                            clear hK K
                                            try simp only [Act.put, List.setIfInBounds_toArray, List.set_cons_zero, List.set_cons_succ]
                                            refine wpAny_take (i := 6) (v := ?_) rfl (by kernel_rfl) (by kernel_rfl) (by kernel_rfl) (fun _ _ _ h => h) (Or.inl ⟨by rfl, ?_⟩) ?_
                                            rotate_left 1
                                            · (intro w; go_simp; try with_reducible rfl)
                                            try simp only [Act.put, List.setIfInBounds_toArray, List.set_cons_zero, List.set_cons_succ]
                                            refine wpAny_ready (rs := [7]) (by kernel_rfl) (by simp) ?_
                                            refine (AllReady.cons (by simp only [List.getElem?_toArray, List.getElem?_cons_succ, List.getElem?_cons_zero]; exact rfl) (fun K hK => ?_) AllReady.nil)
                                            have hcc := (rc_blocks HY.out.2.2.1)
                                            dsimp only at hcc
                                            have hcf := (HY.out.2.2.1).free 53
                                            go_simp
                                            refine hK _ _ ?_
                                            clear hK K
                                            have HZ := Lib.hid (HSC.out x345 q5 c5 HY.out)
                                            clear hcc hcf
                                            try simp only [Act.put, List.setIfInBounds_toArray, List.set_cons_zero, List.set_cons_succ]
                                            refine wpAny_done (by kernel_rfl) ?_ _
                                            refine NoPanic.normal ?_
                                            go_wp2
                                            go_roundw
                                            case rel => exact ⟨k + 1, dn ++ [d], li2, q5, c5, by omega, by go_num, by rw [List.length_append, HDN.out.1]; rfl, HDN2.out, HNX.out, HZ.out.1, HZ.out.2.1, HZ.out.2.2.1, HZ.out.2.2.2.1, HZ.out.2.2.2.2.1, HZ.out.2.2.2.2.2⟩
                                            case measure => simp [intOf]; omega
                                      · have HCN := Lib.hid hc4
                                        obtain ⟨h6, h32⟩ := hcode.2 hc4
                                        rw [digsN, if_pos h32] at hnx
                                        have hT := HTT.out
                                        rw [hnx] at hT
                                        dsimp only [Option.map] at hT
                                        subst h6
                                        subst hT
                                        clear hR hO hRW hR0 hK hsz hnx hcode hy hdn hdn2 hj hj2 h32 hc4 HTT
                                        go_wp2
                                        refine wp_region_any (by kernel_rfl) ?_
                                        try (change wpAny _ _ _ _ _ _ _ (World.drew _))
                                        have HX := Lib.hid (HX0.out)
                                        generalize wr.drew = x at HX ⊢
                                        refine wpAny_take (i := 0) (v := ?_) rfl (by kernel_rfl) (by kernel_rfl) (by kernel_rfl) (fun _ _ _ h => h) (Or.inl ⟨by rfl, ?_⟩) ?_
                                        rotate_left 1
                                        · (intro w; go_simp; try with_reducible rfl)
                                        try simp only [Act.put, List.setIfInBounds_toArray, List.set_cons_zero, List.set_cons_succ]
                                        refine wpAny_take (i := 2) (v := ?_) rfl (by kernel_rfl) (by kernel_rfl) (by kernel_rfl) (fun _ _ _ h => h) (Or.inl ⟨by rfl, ?_⟩) ?_
                                        rotate_left 1
                                        · (intro w; go_simp; try with_reducible rfl)
                                        try simp only [Act.put, List.setIfInBounds_toArray, List.set_cons_zero, List.set_cons_succ]
                                        refine wpAny_ready (rs := [1, 3]) (by kernel_rfl) (by simp) ?_
                                        refine (AllReady.cons (by simp only [List.getElem?_toArray, List.getElem?_cons_succ, List.getElem?_cons_zero]; exact rfl) (fun K hK => ?_) (AllReady.cons (by simp only [List.getElem?_toArray, List.getElem?_cons_succ, List.getElem?_cons_zero]; exact rfl) (fun K hK => ?_) AllReady.nil))
                                        · have hcc := (rc_blocks HX.out.2.2.1)
                                          dsimp only at hcc
                                          go_simp
                                          refine hK _ _ ?_
                                          clear hK K hcc
                                          try simp only [Act.put, List.setIfInBounds_toArray, List.set_cons_zero, List.set_cons_succ]
                                          refine wpAny_ready (rs := [3]) (by kernel_rfl) (by simp) ?_
                                          refine (AllReady.cons (by simp only [List.getElem?_toArray, List.getElem?_cons_succ, List.getElem?_cons_zero]; exact rfl) (fun K hK => ?_) AllReady.nil)
                                          go_simp
                                          refine (HDG.out x HX.out.1).mono ?_
                                          rintro e y3 ⟨hK3, ⟨hcc, -⟩ | ⟨hcc, v, hv, rfl⟩⟩
                                          · exact absurd hcc HCN.out
                                          · exact ⟨rfl, HX.out.2.2.2.2.1.trans hK3, HCN.out, v, hv, rfl⟩
                                        · go_simp
                                          refine (HDG.out x HX.out.1).mono ?_
                                          rintro e y3 ⟨hK3, ⟨hcc, -⟩ | ⟨hcc, v, hv, rfl⟩⟩
                                          · exact absurd hcc HCN.out
                                          · exact ⟨rfl, HX.out.2.2.2.2.1.trans hK3, HCN.out, v, hv, rfl⟩
                                    · have z1 : ¬ (k : Int) < (m : Int) := by omega
                                      have z2 : decide ((k : Int) < (m : Int)) = false := decide_eq_false z1
                                      obtain rfl : k = m := by omega
                                      rw [show k - k = 0 by omega, digsN] at hnx
                                      have hT := HTT.out
                                      rw [hnx] at hT
                                      dsimp only [Option.map] at hT
                                      rw [List.append_nil] at hT
                                      subst hT
                                      have l1 := loadRT rtP hRW
                                      obtain ⟨u, hst, hRU, hKU⟩ := storeRT rtP hR0 ⟨pS x.b, (s : Int), (t : Int), (ch : Int), f, false, dg.b, q, k, cap⟩
                                      obtain ⟨q6, c6, e6, hlt6, hdg6⟩ := dg_own hO hdn.symm hdn2
                                      rw [hdn] at e6
                                      injection e6 with e6 e7 e8
                                      subst e6 e8
                                      have HRU := Lib.hid hRU
                                      have HFIN := Lib.hid (show Kp a.block w u ∧ RdP p N u a li ∧ DgAt u ⟨pS x.b, (s : Int), (t : Int), (ch : Int), f, false, dg.b, q, k, cap⟩ dn ∧ ∀ c o, q = some ⟨c, o, none⟩ → w.heap.size ≤ c from
                                        ⟨hK.high hKU (by have := HBD.out; omega), rdP_high hR hKU (by have := HBD.out; omega), (hdg6 ⟨pS x.b, (s : Int), (t : Int), (ch : Int), f, false, dg.b, q, k, cap⟩ rfl (by dsimp only; exact hdn.symm) rfl HDL8.out).keep (fun c o e hlt => hKU.block c hlt (by have := (hlt6 c o e).1; have := HBD.out; omega)), fun c o e => by have := (hlt6 c o e).1; have := HBD.out; omega⟩)
                                      have HDK := Lib.hid hdn
                                      clear hR hO hRW hR0 hK hsz hnx hdn hdn2 hRU hKU hlt6 hdg6
                                      go_wp2
                                      refine bodyPost_ret (resR rtP rfl _ u M 44 _ rfl HRU.out) rfl ?_
                                      refine ⟨HFIN.out.1, ⟨q, cap, ?_, ?_, HFIN.out.2.2.2⟩, HFIN.out.2.1⟩
                                      · unfold RcT.rc
                                        dsimp only
                                        rw [HDK.out]
                                      · have := HFIN.out.2.2.1
                                        unfold RcT.rc
                                        dsimp only
                                        rw [HDK.out]
                                        exact this
                                · exact absurd rfl hcc
                              · rw [stp_no hc] at hT
                                subst hT
                                clear hy
                                go_wp2_with fail
                                clear hst8
                                refine (HCT.out _).mono ?_
                                rintro e wc ⟨rfl, rfl⟩
                                go_wp2_with fail
                                refine HC.out.mono ?_
                                rintro e wx ⟨hK, ⟨hcc, -⟩ | ⟨hcc, v, hv, rfl⟩⟩
                                · exact absurd hcc hc
                                · exact ⟨rfl, (HKA.out.trans HK8p.out).trans hK, hc, v, hv, rfl⟩
                            · exact absurd rfl hcc
                          · rw [stp_no hc] at hT
                            subst hT
                            clear hy
                            go_wp2_with fail
                            refine HC.out.mono ?_
                            rintro e wx ⟨hK, ⟨hcc, -⟩ | ⟨hcc, v, hv, rfl⟩⟩
                            · exact absurd hcc hc
                            · exact ⟨rfl, (HKA.out.trans HK7.out).trans hK, hc, v, hv, rfl⟩
                      · exact absurd rfl hcc
                    · rw [stp_no hc] at hT
                      subst hT
                      clear hy
                      go_wp2_with fail
                      refine HC.out.mono ?_
                      rintro e wx ⟨hK, ⟨hcc, -⟩ | ⟨hcc, v, hv, rfl⟩⟩
                      · exact absurd hcc hc
                      · exact ⟨rfl, (HKA.out.trans HK_l5.out).trans hK, hc, v, hv, rfl⟩
                · exact absurd rfl hcc
              · rw [stp_no hc] at hT
                subst hT
                clear hy
                go_wp2_with fail
                refine HC.out.mono ?_
                rintro e wx ⟨hK, ⟨hcc, -⟩ | ⟨hcc, v, hv, rfl⟩⟩
                · exact absurd hcc hc
                · exact ⟨rfl, (HKA.out.trans HK_l3.out).trans hK, hc, v, hv, rfl⟩
            · exact absurd rfl hcc
          · rw [stp_no hc] at hT
            subst hT
            clear hy
            go_wp2_with fail
            refine HC.out.mono ?_
            rintro e wx ⟨hK, ⟨hcc, -⟩ | ⟨hcc, v, hv, rfl⟩⟩
            · exact absurd hcc hc
            · exact ⟨rfl, (HKA.out.trans HK_l2.out).trans hK, hc, v, hv, rfl⟩
        · exact absurd rfl hcc
      · rw [stp_no hc] at hT
        subst hT
        clear hy
        go_wp2_with fail
        refine HC.out.mono ?_
        rintro e wx ⟨hK, ⟨hcc, -⟩ | ⟨hcc, v, hv, rfl⟩⟩
        · exact absurd hcc hc
        · exact ⟨rfl, (HKA.out.trans HK_l1.out).trans hK, hc, v, hv, rfl⟩
    · exact absurd rfl hcc
  · rw [stp_no hc] at hT
    subst hT
    clear hy
    go_wp2_with fail
    refine HC.out.mono ?_
    rintro e wx ⟨hK, ⟨hcc, -⟩ | ⟨hcc, v, hv, rfl⟩⟩
    · exact absurd hcc hc
    · exact ⟨rfl, (HKA.out.trans HK0.out).trans hK, hc, v, hv, rfl⟩
end Go.Proofs.YtkajeepbelfpiaaGreatDoor
/- Read, once more: what its function leaves may lie in new blocks. -/
set_option maxRecDepth 100000
namespace Go.Proofs.YtkajeepbelfpiaaGreatDoor
open Go Go.RowKit
attribute [-go_sem] Sha.exec_store

attribute [local go_sem] mkFn sl_full
attribute [local go_sem ↓] exec_slice
set_option maxRecDepth 100000 in
set_option maxHeartbeats 4000000 in
/-- Read, of what changes with no more than Read's own blocks. -/
theorem readJ_any (l : List (BitVec 8)) (p : Option Addr) (n cap g : Nat) (caps : Array Value) (w : World) (J : Nat → World → Prop) (hl : l.length = n) (hs : Sl w p l) (hp : p = none → cap = 0) (hnc : n ≤ cap) (hn : n < 1000000)
    (hent : ∀ args w, (callFunc g args).run Tryz.prog w = .ok (.enter g args) w) (hJ : ∀ c x y, J c x → Below w.heap.size x y → (∀ k, k < x.heap.size → k ≠ w.heap.size → k ≠ w.heap.size + 1 → y.heap[k]? = x.heap[k]?) → J c y)
    (hf : ∀ a w1, Below w.heap.size w w1 → w.heap.size + 3 ≤ w1.heap.size → RdP p w.heap.size w1 a l → Calls Tryz.prog g (#[.pointer (some a)] ++ caps) w1 fun e w2 => Loc w.heap.size a.block w1 w2 ∧ ((∃ rest, e = .returned (.tuple #[]) ∧ RdP p w.heap.size w2 a rest ∧ J (if rest = [] then 0 else 6) w2) ∨ (∃ code : Nat, Thrown (ThrP a) code e w2 ∧ J code w2))) :
    Calls Tryz.prog 136 #[.slice p n cap, .func (.func g) #[] caps] w fun e w' => ∃ code : Nat, e = .returned (.int .i64 (code : Int)) ∧ J code w' := by
  go_enter_defers Tryz.func136, Tryz.ntmps136
  have hB3 : Below w.heap.size w (((w.alloc (.cells #[.int .i64 0] 35)).alloc (.cells #[.slice p n n, .bool true, .int .i64 0] 246)).alloc (.cells #[.pointer (some ⟨w.heap.size + 1, 0, none⟩)] 213)) := (((Below.refl _ _).alloc (Nat.le_refl _) _).alloc (by simp [World.size_alloc]) _).alloc (by simp [World.size_alloc]; omega) _
  have hz3 : (((w.alloc (.cells #[.int .i64 0] 35)).alloc (.cells #[.slice p n n, .bool true, .int .i64 0] 246)).alloc (.cells #[.pointer (some ⟨w.heap.size + 1, 0, none⟩)] 213)).heap.size = w.heap.size + 1 + 1 + 1 := by simp [World.size_alloc]
  have c0 : (((w.alloc (.cells #[.int .i64 0] 35)).alloc (.cells #[.slice p n n, .bool true, .int .i64 0] 246)).alloc (.cells #[.pointer (some ⟨w.heap.size + 1, 0, none⟩)] 213)).cell? ⟨w.heap.size, 0, none⟩ = some (.int .i64 0) := by go_simp
  have d0 : (((w.alloc (.cells #[.int .i64 0] 35)).alloc (.cells #[.slice p n n, .bool true, .int .i64 0] 246)).alloc (.cells #[.pointer (some ⟨w.heap.size + 1, 0, none⟩)] 213)).frozen? ⟨w.heap.size, 0, none⟩ = false := by go_simp
  have hrd : RdC (((w.alloc (.cells #[.int .i64 0] 35)).alloc (.cells #[.slice p n n, .bool true, .int .i64 0] 246)).alloc (.cells #[.pointer (some ⟨w.heap.size + 1, 0, none⟩)] 213)) (w.heap.size + 1) p n n true 0 := ⟨by go_simp, by go_simp, by go_simp, by go_simp, by go_simp, by go_simp⟩
  have c2 : (((w.alloc (.cells #[.int .i64 0] 35)).alloc (.cells #[.slice p n n, .bool true, .int .i64 0] 246)).alloc (.cells #[.pointer (some ⟨w.heap.size + 1, 0, none⟩)] 213)).cell? ⟨w.heap.size + 1 + 1, 0, none⟩ = some (.pointer (some ⟨w.heap.size + 1, 0, none⟩)) := by go_simp
  have hnil : p = none → n = 0 := fun e => by
    rcases Nat.eq_zero_or_pos n with h | h
    · exact h
    · obtain ⟨c, o, e2, -⟩ := hs 0 (by omega)
      rw [e] at e2; cases e2
  have HRD := Lib.hid (show RdP p w.heap.size (((w.alloc (.cells #[.int .i64 0] 35)).alloc (.cells #[.slice p n n, .bool true, .int .i64 0] 246)).alloc (.cells #[.pointer (some ⟨w.heap.size + 1, 0, none⟩)] 213)) ⟨w.heap.size + 1, 0, none⟩ l from
    ⟨w.heap.size + 1, p, n, rfl, Nat.le_succ _, by rw [hl]; exact hrd, hs.of_below hB3, hnil, by omega, by omega, fun h c o e => ⟨hs.blk6 h c o e, o, e⟩⟩)
  have HF := Lib.hid (hf ⟨w.heap.size + 1, 0, none⟩ _ hB3 (by rw [hz3]; exact Nat.le_refl _) HRD.out)
  have HC := Lib.hid (And.intro c0 (And.intro d0 (And.intro c2 hz3)))
  have HJ := Lib.hid hJ
  have HB3 := Lib.hid hB3
  clear hf HRD c0 d0 c2 hz3 hJ hs hp hB3 hrd
  go_wp2_with fail
  refine HF.out.mono ?_
  clear HF
  generalize (((w.alloc (.cells #[.int .i64 0] 35)).alloc (.cells #[.slice p n n, .bool true, .int .i64 0] 246)).alloc (.cells #[.pointer (some ⟨w.heap.size + 1, 0, none⟩)] 213)) = W3 at *
  generalize hH : w.heap.size = H at *
  rintro e w2 ⟨hLo, h⟩
  have k0 : w2.cell? ⟨H, 0, none⟩ = some (.int .i64 0) := by rw [World.cell?_of_block (w := W3) (hLo.block H (Nat.le_refl _) (by rw [HC.out.2.2.2]; omega) (by show H ≠ H + 1; omega))]; exact HC.out.1
  have k1 : w2.frozen? ⟨H, 0, none⟩ = false := by rw [World.frozen?_of_block (w := W3) (hLo.block H (Nat.le_refl _) (by rw [HC.out.2.2.2]; omega) (by show H ≠ H + 1; omega))]; exact HC.out.2.1
  have k2 : w2.cell? ⟨H + 1 + 1, 0, none⟩ = some (.pointer (some ⟨H + 1, 0, none⟩)) := by rw [World.cell?_of_block (w := W3) (hLo.block (H + 1 + 1) (by omega) (by rw [HC.out.2.2.2]; omega) (by show H + 1 + 1 ≠ H + 1; omega))]; exact HC.out.2.2.1
  have hz2 : H + 1 + 1 + 1 ≤ w2.heap.size := by rw [← HC.out.2.2.2]; exact hLo.size
  have hlast : ∀ (c : Nat) (w4 : World), Kp (H + 1) w2 w4 → J c w2 → J c (w4.setCell ⟨H, 0, none⟩ (.int .i64 (c : Int))) ∧ (w4.setCell ⟨H, 0, none⟩ (.int .i64 (c : Int))).cell? ⟨H, 0, none⟩ = some (.int .i64 (c : Int)) := fun c w4 hK hj => by
    have hb := (hK.below (N := H) (by omega) (by omega)).setCell (show H ≤ (⟨H, 0, none⟩ : Addr).block from Nat.le_refl H) (.int .i64 (c : Int))
    refine ⟨HJ.out c _ _ hj hb (fun k h1 h2 h3 => (Below.heap_setCell _ _ _ _ (by show k ≠ H; exact h2)).trans (hK.block k h1 h3)), World.cell?_setCell_same _ _ _ (u := .int .i64 0) ?_⟩
    rw [hK.cell (by show H < _; omega) (by show H ≠ H + 1; omega)]; exact k0
  rcases h with ⟨rest, rfl, ⟨b, q2, cap2, hb, hNb, r1, -⟩, hJ2⟩ | ⟨code, ⟨v, ⟨rfl, hc0, hc15, b, q2, n2, cap2, hb, r1⟩, rfl⟩, hJ2⟩
  · injection hb with hb _ _
    subst hb
    have HR1 := Lib.hid r1
    have HJ2 := Lib.hid hJ2
    have HL := Lib.hid hlast
    have H2 := Lib.hid (And.intro k0 (And.intro k1 k2))
    clear r1 hJ2 hlast k0 k1 k2 hLo
    obtain ⟨x, hx⟩ : ∃ x : Nat, (if rest.length = 0 then 0 else 6) = x := ⟨_, rfl⟩
    have hx2 : (if rest = [] then 0 else 6 : Nat) = x := by rw [← hx]; cases rest <;> simp
    have hci := catch_idle (H + 1) q2 rest.length cap2 (H + 1 + 1) H _ w2 HR1.out H2.out.2.2 H2.out.1 H2.out.2.1 (by omega)
    rw [hx] at hci
    have HCI := Lib.hid hci
    rw [hx2] at HJ2
    clear hx hx2 hci
    go_wp2
    refine leaves_cons (f := 179) (args := #[.pointer (some ⟨H + 1 + 1, 0, none⟩), .pointer (some ⟨H, 0, none⟩)]) (by simp) (by simp [go_sem]) ?_
    refine HCI.out.mono ?_
    rintro e u' w'' ⟨rfl, rfl, w4, hK, rfl⟩
    obtain ⟨hj, kk⟩ := HL.out x w4 hK HJ2.out
    simp [Leaves, settle, results, Tryz.results136, go_sem, kk]
    exact ⟨x, rfl, hj⟩
  · injection hb with hb _ _
    subst hb
    dsimp only
    refine leaves_cons (f := 179) (args := #[.pointer (some ⟨H + 1 + 1, 0, none⟩), .pointer (some ⟨H, 0, none⟩)]) (by simp) (by simp [go_sem]) ?_
    refine (catch_thrown (H + 1) q2 n2 cap2 code (H + 1 + 1) H _ w2 r1 hc0 hc15 k2 k0 k1 (by omega)).mono ?_
    rintro e u' w'' ⟨rfl, rfl, w4, hK, rfl⟩
    obtain ⟨hj, kk⟩ := hlast code w4 hK hJ2
    simp [Leaves, settle, results, Tryz.results136, go_sem, kk]
    exact ⟨code, rfl, hj⟩
end Go.Proofs.YtkajeepbelfpiaaGreatDoor
/- record.Parse. -/
set_option maxRecDepth 100000
namespace Go.Proofs.YtkajeepbelfpiaaGreatDoor
open Go Go.RowKit

attribute [-go_sem] Sha.exec_store
theorem takeV_len {l : By} {f : Nat → Int} {rest : By} (h : takeV l = some (f, rest)) : rest.length ≤ l.length := by
  rw [takeV_eq] at h
  have := (takeR_enc h).1
  rw [this, List.length_append]
  omega
theorem digsN_len : ∀ {k : Nat} {l : By} {ds : List By} {rest : By}, digsN k l = some (ds, rest) → rest.length ≤ l.length ∧ (∀ d ∈ ds, d.length = 32)
  | 0, l, ds, rest, h => by
    rw [digsN] at h
    injection h with h
    injection h with h1 h2
    subst h1 h2
    exact ⟨Nat.le_refl _, fun d hd => by cases hd⟩
  | k + 1, l, ds, rest, h => by
    rw [digsN] at h
    split at h
    · cases h
    · rename_i hl
      cases e : digsN k (l.drop 32) with
      | none => rw [e] at h; cases h
      | some x =>
        rw [e] at h
        injection h with h
        injection h with h1 h2
        obtain ⟨i1, i2⟩ := digsN_len (ds := x.1) (rest := x.2) e
        subst h1 h2
        rw [List.length_drop] at i1
        refine ⟨by omega, fun d hd => ?_⟩
        rcases List.mem_cons.1 hd with rfl | hd
        · rw [List.length_take]; omega
        · exact i2 d hd
theorem stp_inv {α β : Type} {x : α × Nat × Nat} {l : By} {f : α → By → Except Nat β} {b : β} (h : stp x l f = .ok b) : x.2.2 = 0 ∧ f x.1 (l.drop x.2.1) = .ok b := by
  unfold stp at h
  split at h
  · exact ⟨by assumption, h⟩
  · cases h
theorem nextI_text_len {l : By} {most : Int} (h : (nextI l 2 most).2.2 = 0) : ((nextI l 2 most).1.b.length : Int) ≤ most := by
  rw [nextI_take (by decide) (by decide)] at h ⊢
  split
  · rename_i h1; rw [if_pos h1] at h; exact absurd h h1
  · rename_i h1
    rw [if_neg h1, if_neg (by omega)] at h
    rw [if_neg (by omega)]
    split
    · rename_i h2; rw [if_pos h2] at h; cases h
    · have h0 : (takeI l most).2.2 = 0 := by omega
      have := takeI_le (l := l) (n := (takeI l most).1) (k := (takeI l most).2.1) (most := most) (by rw [← h0])
      rw [List.length_take]
      have : (min (takeI l most).1 (l.drop (takeI l most).2.1).length : Nat) ≤ (takeI l most).1 := Nat.min_le_left _ _
      omega
/-- What was taken is no longer than the bytes; its path is short. -/
theorem takeRc_len {l : By} {r : RcT} {rest : By} (h : takeRc l = .ok (r, rest)) : rest.length ≤ l.length ∧ r.path.length ≤ 100 := by
  unfold takeRc at h
  obtain ⟨h0, h⟩ := stp_inv h
  have hp := nextI_text_len h0
  obtain ⟨-, h⟩ := stp_inv h
  obtain ⟨-, h⟩ := stp_inv h
  obtain ⟨-, h⟩ := stp_inv h
  split at h
  · cases h
  · rename_i f l5 hv
    have h5 := takeV_len hv
    obtain ⟨-, h⟩ := stp_inv h
    split at h
    · injection h with h
      injection h with h1 h2
      subst h1 h2
      simp only [List.length_drop] at h5 ⊢
      exact ⟨by omega, by first | omega | (dsimp only; omega)⟩
    · obtain ⟨-, h⟩ := stp_inv h
      obtain ⟨-, h⟩ := stp_inv h
      split at h
      · cases h
      · rename_i ds l9 hd
        have h9 := (digsN_len hd).1
        injection h with h
        injection h with h1 h2
        subst h1 h2
        simp only [List.length_drop] at h5 h9 ⊢
        exact ⟨by omega, by first | omega | (dsimp only; omega)⟩
theorem takeRc_nil : takeRc [] = .error 6 := by rfl
/-- Is it a valid record? -/
def goodT (r : RcT) : Bool := goodR (r.rc none 0)
/-- What Parse tells. -/
def parseC (l : By) : Nat × Option RcT :=
  match takeRc l with
  | .error c => (c, none)
  | .ok (r, l1) => if l1.length = 32 then (if deq (digL (l.take (l.length - 32))) l1 then (if goodT r then (0, some r) else (1, none)) else (11, none)) else (6, none)
attribute [local go_sem ↓] exec_boxA exec_loadA exec_indexA exec_allocA exec_storeA exec_buildA exec_eqlA exec_neqA exec_boxV exec_loadV exec_indexV exec_allocV exec_storeV exec_buildV exec_eqlV exec_neqV
attribute [local go_sem] boxA indexA storeNewA buildA eqlA neqA boxV indexV storeNewV buildV eqlV neqV

attribute [local go_sem ↓] exec_loadS exec_boxS exec_boxP exec_allocP exec_storeP exec_buildP exec_load32 exec_build32 exec_store32F exec_alloc32 exec_loadP2 exec_eqlD exec_neqD exec_bs
attribute [local go_sem] box_stamp boxP bd32 eqlD neqD bdP0 bsSl
theorem dgF_slX {w : World} {E : Nat} {T : TypeId} {l : By} (h : Row w E T 32 (dgF l)) (hl : l.length = 32) : Sl w (some ⟨E, 0, none⟩) l :=
  Sl.row h (by omega) fun j hj => rfl
theorem rdP_stay4 (p : Option Addr) (N : Nat) (w w' : World) (a : Addr) (l : By) (h : RdP p N w a l) (hb : w'.heap[a.block]? = w.heap[a.block]?) (hp : 0 < l.length → ∀ c o, p = some ⟨c, o, none⟩ → c < N → w'.heap[c]? = w.heap[c]?) : RdP p N w' a l := by
  obtain ⟨b, q, cap, rfl, h1, h2, h4, h5, h6, h7, h8⟩ := h
  refine ⟨b, q, cap, rfl, h1, h2.same hb, fun j hj => ?_, h5, h6, h7, h8⟩
  obtain ⟨c, o, e, hx⟩ := h4 j hj
  obtain ⟨hc, o', e'⟩ := h8 (by omega) c o e
  exact ⟨c, o, e, by rw [World.cell?_of_block (w := w) (hp (by omega) c o' e' hc)]; exact hx⟩
/-- What the function that Parse hands to Read leaves. -/
def PrsIn (p : Option Addr) (N : Nat) (w : World) (a : Addr) (l : By) (b4 b5 : Nat) (e : Ending) (w' : World) : Prop :=
  Loc N a.block w w' ∧ (∀ M, M ≤ b4 → M ≤ b5 → M ≤ N → Below M w w') ∧ match takeRc l with
    | .error c => c ≠ 0 ∧ Thrown (ThrP a) c e w'
    | .ok (r, l1) => (∃ q cap, Row w' b4 44 54 (rcF (r.rc q cap)) ∧ DgAt w' (r.rc q cap) r.ds ∧ ∀ c o, q = some ⟨c, o, none⟩ → w.heap.size ≤ c) ∧
      if l1.length < 32 then Thrown (ThrP a) 6 e w' else e = .returned (.tuple #[]) ∧ RdP p N w' a (l1.drop 32) ∧ Row w' b5 41 32 (dgF (l1.take 32))
set_option maxRecDepth 100000 in
set_option maxHeartbeats 4000000 in
theorem prs_in (p : Option Addr) (N : Nat) (w : World) (a : Addr) (l : By) (b4 b5 : Nat) (r4 : Rc) (g5 : Nat → Value) (hR : RdP p N w a l) (h4 : Row w b4 44 54 (rcF r4)) (h5 : Row w b5 41 32 g5) (l4 : b4 < N) (l5 : b5 < N) (hne : b4 ≠ b5) (hpp : 0 < l.length → ∀ c o, p = some ⟨c, o, none⟩ → c ≠ b4 ∧ c ≠ b5) :
    Calls Tryz.prog 213 (#[.pointer (some a)] ++ #[.pointer (some ⟨b4, 0, none⟩), .pointer (some ⟨b5, 0, none⟩)]) w (PrsIn p N w a l b4 b5) := by
  have hlie := rdP_lie _ _ _ _ _ hR
  have HT := Lib.hid (take10_any p N w a l hR)
  have HLI := Lib.hid (And.intro hlie (And.intro l4 (And.intro l5 hne)))
  have H45 := Lib.hid (And.intro h4 h5)
  have HPP := Lib.hid hpp
  show Calls Tryz.prog _ #[.pointer (some a), .pointer (some ⟨b4, 0, none⟩), .pointer (some ⟨b5, 0, none⟩)] w _
  clear hR h4 h5 hlie l4 l5 hne hpp
  cases hT : takeRc l with
  | error c =>
    rw [hT] at HT
    have HTE := Lib.hid hT
    clear hT
    go_enter Tryz.func213, Tryz.ntmps213
    go_wp2_with fail
    refine HT.out.mono ?_
    rintro e w1 ⟨hK, hc, v, hv, rfl⟩
    refine ⟨rfl, Loc.ofKp hK, fun M h1 h2 h3 => hK.below (by have := HLI.out; omega) (by have := HLI.out; omega), ?_⟩
    rw [HTE.out]
    exact ⟨hc, v, hv, rfl⟩
  | ok x =>
    obtain ⟨r, l1⟩ := x
    rw [hT] at HT
    have hl0 : 0 < l.length := by
      cases l with
      | nil => rw [takeRc_nil] at hT; cases hT
      | cons y t => simp
    have HPL := Lib.hid (HPP.out hl0)
    have HTE := Lib.hid hT
    clear hT hl0
    go_enter Tryz.func213, Tryz.ntmps213
    go_wp2_with fail
    refine HT.out.mono ?_
    rintro e w1 ⟨hK, ⟨q, cap, rfl, hD, hq⟩, hR1⟩
    obtain ⟨u1, hst, hR4, hK4⟩ := storeRT rtP (H45.out.1.of_kp hK (by have := HLI.out; omega)) (r.rc q cap)
    have hsz1 : w.heap.size ≤ w1.heap.size := hK.size
    have hsz2 : w1.heap.size ≤ u1.heap.size := hK4.size
    have hR5 := (H45.out.2.of_kp hK (by have := HLI.out; omega)).of_kp hK4 (by have := HLI.out; omega)
    have hRD := rdP_stay4 _ _ _ u1 _ _ hR1 (hK4.block _ (by have := HLI.out; omega) (by have := HLI.out; omega)) (fun h c o e hc => hK4.block c (by have := HLI.out; omega) (HPL.out c o e).1)
    have hD1 := hD.keep (u := u1) (fun c o e hlt => hK4.block c hlt (by have := hq c o e; have := HLI.out; omega))
    have HA := Lib.hid (And.intro hR4 (And.intro hR5 (And.intro hRD (And.intro hD1 (And.intro hq (And.intro hsz1 hsz2))))))
    have HLO := Lib.hid (show Loc N a.block w u1 from ⟨Nat.le_trans hsz1 hsz2, fun k h1 h2 h3 => (hK4.block k (by omega) (by have := HLI.out; omega)).trans (hK.block k h2 h3)⟩)
    have HBW := Lib.hid (show ∀ M, M ≤ b4 → M ≤ b5 → M ≤ N → Below M w u1 from fun M h1 h2 h3 => (hK.below (by have := HLI.out; omega) (by have := HLI.out; omega)).trans (hK4.below h1 (by have := HLI.out; omega)))
    have HDG := Lib.hid (rdP_digest p N u1 a l1 hRD)
    obtain ⟨y, hy⟩ : ∃ y, nextI l1 4 0 = y := ⟨_, rfl⟩
    obtain ⟨dx, k4, c4⟩ := y
    have hcode := nextI_code hy
    rw [hy] at HDG
    try dsimp only at HDG
    clear hK hR4 hK4 hR5 hRD hD1 hq hD hR1 hsz1 hsz2 hy
    by_cases hc4 : c4 = 0
    · subst hc4
      obtain ⟨e1, e2, e3⟩ := hcode.1 rfl
      subst e2
      have hlen : dx.b.length = 32 := by rw [e1, List.length_take]; omega
      have HE := Lib.hid (And.intro e1 (And.intro e3 hlen))
      clear e1 e3 hcode hlen
      go_wp2_with fail
      clear hst
      refine HDG.out.mono ?_
      rintro e w2 ⟨hK2, h2⟩
      obtain ⟨-, ⟨v, rfl, hval⟩, hR2⟩ := h2.resolve_right (fun h => h.1 rfl)
      subst hval
      obtain ⟨hR4, hR5, hRD, hD1, hq, hsz1, hsz2⟩ := HA.out
      obtain ⟨u2, hst2, hR52, hK52⟩ := st_row32 (hR5.of_kp hK2 (by have := HLI.out; omega)) dx.b
      have hsz3 : u1.heap.size ≤ w2.heap.size := hK2.size
      have hR42 := (hR4.of_kp hK2 (by have := HLI.out; omega)).of_kp hK52 (by have := HLI.out; omega)
      have hRD2 := rdP_stay4 _ _ _ u2 _ _ hR2 (hK52.block _ (by have := HLI.out; omega) (by have := HLI.out; omega)) (fun h c o e hc => hK52.block c (by have := HLI.out; omega) (HPL.out c o e).2)
      have hD2 := (hD1.keep (u := w2) (fun c o e hlt => hK2.block c hlt (by have := hq c o e; have := HLI.out; omega))).keep (u := u2) (fun c o e hlt => hK52.block c hlt (by have := hq c o e; have := HLI.out; omega))
      have HFIN := Lib.hid (show PrsIn p N w a l b4 b5 (.returned (.tuple #[])) u2 from by
        refine ⟨⟨Nat.le_trans HLO.out.size (Nat.le_trans hsz3 hK52.size), fun k h1 h2 h3 => (hK52.block k (by omega) (by have := HLI.out; omega)).trans ((hK2.block k (by omega) h3).trans (HLO.out.block k h1 h2 h3))⟩, fun M h1 h2 h3 => ((HBW.out M h1 h2 h3).trans (hK2.below (by have := HLI.out; omega) (by have := HLI.out; omega))).trans (hK52.below h2 (by have := HLI.out; omega)), ?_⟩
        rw [HTE.out]
        dsimp only
        refine ⟨⟨q, cap, hR42, hD2, hq⟩, ?_⟩
        rw [if_neg (by have := HE.out.2.1; omega), ← HE.out.1]
        exact ⟨rfl, hRD2, hR52⟩)
      clear hK2 h2 hR2 hR4 hR5 hRD hD1 hq hsz1 hsz2 hsz3 hR52 hK52 hR42 hRD2 hD2
      go_wp2
      go_end0
      exact HFIN.out
    · have HC4 := Lib.hid (And.intro hc4 (hcode.2 hc4))
      clear hc4 hcode
      go_wp2_with fail
      clear hst
      refine HDG.out.mono ?_
      rintro e w2 ⟨hK2, ⟨hcc, -⟩ | ⟨hcc, v, hv, rfl⟩⟩
      · exact absurd hcc HC4.out.1
      · obtain ⟨hR4, hR5, hRD, hD1, hq, hsz1, hsz2⟩ := HA.out
        have hsz3 : u1.heap.size ≤ w2.heap.size := hK2.size
        refine ⟨rfl, ⟨Nat.le_trans HLO.out.size hsz3, fun k h1 h2 h3 => (hK2.block k (by omega) h3).trans (HLO.out.block k h1 h2 h3)⟩, fun M h1 h2 h3 => (HBW.out M h1 h2 h3).trans (hK2.below (by have := HLI.out; omega) (by have := HLI.out; omega)), ?_⟩
        rw [HTE.out]
        dsimp only
        refine ⟨⟨q, cap, hR4.of_kp hK2 (by have := HLI.out; omega), hD1.keep (u := w2) (fun c o e hlt => hK2.block c hlt (by have := hq c o e; have := HLI.out; omega)), hq⟩, ?_⟩
        rw [if_pos HC4.out.2.2]
        have h6 := HC4.out.2.1
        subst h6
        exact ⟨v, hv, rfl⟩
/-- The record that Parse tells. -/
def PrsPost (M : Nat) (w' : World) (x : Option RcT) (R : Rc) : Prop := match x with
  | some r => ∃ q' cap', R = r.rc q' cap' ∧ DgAt w' R r.ds ∧ ∀ c o, q' = some ⟨c, o, none⟩ → M ≤ c
  | none => R = rc0
theorem sl_hiX (q : Option Addr) (n cap k : Nat) (w : World) (hk : k ≤ cap) : (Instr.slice 56 (.slice q n cap) none (some (.int .i64 (k : Int))) none).run Tryz.prog w = .ok (.slice q k cap) w := by
  rw [run_slice_h (P := Tryz.prog) w 56 q n cap und35 .i64 (k : Int) (by omega) (by omega), sizeB]
  simp only [Sem.run_bind, Result.andThen_ok, Sem.run_pure, sliced, Int.toNat_natCast, Nat.zero_mul, Nat.sub_zero]
  have := cutA_zero q cap
  unfold cutA at this
  rw [this]
theorem enters_prs : ∀ args w, (callFunc 213 args).run Tryz.prog w = .ok (.enter 213 args) w := enters_of Tryz.func213 (by kernel_rfl) rfl
theorem mkFnR : ∀ (fn : Fn) (first cap : Array Value) (w : World), (Instr.makeFunc fn first cap).run Tryz.prog w = .ok (.func fn first cap) w := fun _ _ _ _ => rfl
attribute [local go_sem] mkFnR
/-- What Read leaves of Parse's variables. -/
def PrsJ (l : By) (w : World) (M : Nat) (c : Nat) (u : World) : Prop :=
  Below M w u ∧ M + 3 ≤ u.heap.size ∧ Row u M 44 54 (rcF rc0) ∧ match takeRc l with
    | .error c' => c = c' ∧ c ≠ 0
    | .ok (r, l1) => (∃ q cap, Row u (M + 1) 44 54 (rcF (r.rc q cap)) ∧ DgAt u (r.rc q cap) r.ds ∧ ∀ c o, q = some ⟨c, o, none⟩ → M + 6 ≤ c) ∧
      if l1.length < 32 then c = 6 else c = (if l1.length = 32 then 0 else 6) ∧ Row u (M + 2) 41 32 (dgF (l1.take 32))
theorem prsJ_stay (l : By) (w : World) (M : Nat) (c : Nat) (x y : World) (h : PrsJ l w M c x) (hB : Below (M + 3) x y) (hk : ∀ k, k < x.heap.size → k ≠ M + 3 → k ≠ M + 3 + 1 → y.heap[k]? = x.heap[k]?) : PrsJ l w M c y := by
  obtain ⟨h1, h2, h3, h4⟩ := h
  refine ⟨h1.trans (hB.mono (by omega)), Nat.le_trans h2 hB.size, h3.below hB (by omega), ?_⟩
  cases hT : takeRc l with
  | error c' => rw [hT] at h4; exact h4
  | ok z =>
    obtain ⟨r, l1⟩ := z
    rw [hT] at h4
    dsimp only at h4 ⊢
    obtain ⟨⟨q, cap, a1, a2, a3⟩, a4⟩ := h4
    refine ⟨⟨q, cap, a1.below hB (by omega), a2.keep (fun c o e hlt => hk c hlt (by have := a3 c o e; omega) (by have := a3 c o e; omega)), a3⟩, ?_⟩
    split
    · rename_i hl; rw [if_pos hl] at a4; exact a4
    · rename_i hl; rw [if_neg hl] at a4; exact ⟨a4.1, a4.2.below hB (by omega)⟩
set_option maxRecDepth 100000 in
set_option maxHeartbeats 8000000 in
theorem parse10_any (l : By) (q : Option Addr) (n cap : Nat) (w : World) (hl : l.length = n) (hs : Sl w q l) (hq : q = none → cap = 0) (hc : n ≤ cap) (hn : n < 1000000) (hTb : Tb w) :
    Calls Tryz.prog 184 #[.slice q n cap] w fun e w' => ∃ R, e = .returned (.tuple #[rcV R, .int .i64 ((parseC l).1 : Int)]) ∧ Below w.heap.size w w' ∧ PrsPost w.heap.size w' (parseC l).2 R := by
  obtain ⟨PC, hPC⟩ : ∃ PC, parseC l = PC := ⟨_, rfl⟩
  have HPE := Lib.hid hPC
  rw [hPC]
  clear hPC
  obtain ⟨M, hM⟩ : ∃ M, w.heap.size = M := ⟨_, rfl⟩
  obtain ⟨W1, hW1⟩ : ∃ W, w.alloc (.cells (tab 54 (rcF rc0)) 44) = W := ⟨_, rfl⟩
  obtain ⟨W2, hW2⟩ : ∃ W, W1.alloc (.cells (tab 54 (rcF rc0)) 44) = W := ⟨_, rfl⟩
  obtain ⟨W3, hW3⟩ : ∃ W, W2.alloc (.cells (zb 32) 41) = W := ⟨_, rfl⟩
  have hB1 : Below w.heap.size w W1 := by rw [← hW1]; exact below_newD _ _
  have hB2 : Below W1.heap.size W1 W2 := by rw [← hW2]; exact below_newD _ _
  have hB3 : Below W2.heap.size W2 W3 := by rw [← hW3]; exact below_newD _ _
  have z1 : W1.heap.size = M + 1 := by rw [← hW1]; simp [hM]
  have z2 : W2.heap.size = M + 2 := by rw [← hW2]; simp [z1]
  have z3 : W3.heap.size = M + 3 := by rw [← hW3]; simp [z2]
  have hR2 : Row W1 M 44 54 (rcF rc0) := by rw [← hM, ← hW1]; exact Row.new _ _ _ _
  have hR4 : Row W2 (M + 1) 44 54 (rcF rc0) := by rw [← z1, ← hW2]; exact Row.new _ _ _ _
  have hR5 : Row W3 (M + 2) 41 32 (fun _ => B 0#8) := by
    have e0 : zb 32 = tab 32 (fun _ => B 0#8) := by unfold zb; exact tab_congr fun j hj => by rw [B_eq']
    rw [← z2, ← hW3, e0]; exact Row.new _ _ _ _
  have hR23 := (hR2.of_below hB2).of_below hB3
  have hR43 := hR4.of_below hB3
  have hBW : Below w.heap.size w W3 := hB1.trans ((hB2.trans (hB3.mono hB2.size)).mono hB1.size)
  have hs3 := hs.of_below hBW
  have hpp : 0 < l.length → ∀ c o, q = some ⟨c, o, none⟩ → c < M := fun h0 c o e => by
    obtain ⟨c', o', e', hx⟩ := hs 0 h0
    rw [e] at e'
    injection e' with e'
    injection e' with e1 _
    subst e1
    rw [← hM]
    exact World.block_lt_of_cell? w _ hx
  have HRD := Lib.hid (readJ_any l q n cap 213 #[.pointer (some ⟨M + 1, 0, none⟩), .pointer (some ⟨M + 2, 0, none⟩)] W3 (PrsJ l w M) hl hs3 hq hc hn enters_prs
    (fun c x y h k1 k2 => prsJ_stay l w M c x y h (by rw [← z3]; exact k1) (by rw [← z3]; exact k2))
    (fun a u hb hsz hr => (prs_in q W3.heap.size u a l (M + 1) (M + 2) rc0 _ hr (hR43.of_below hb) (hR5.of_below hb) (by omega) (by omega) (by omega) (fun h0 c o e => by have := hpp h0 c o e; omega)).mono fun e u2 ⟨k1, k2, k3⟩ => by
      refine ⟨k1, ?_⟩
      have hj1 : Below M w u2 := by
        have h1 := k2 M (by omega) (by omega) (by omega)
        rw [hM] at hBW
        exact hBW.trans ((hb.mono (by omega)).trans h1)
      have hj2 : M + 3 ≤ u2.heap.size := by have := k1.size; have := hb.size; omega
      have hj3 : Row u2 M 44 54 (rcF rc0) := by
        have h1 := k2 (M + 1) (by omega) (by omega) (by omega)
        exact (hR23.of_below hb).below h1 (by omega)
      unfold PrsJ
      cases hT : takeRc l with
      | error c' =>
        rw [hT] at k3
        exact .inr ⟨c', k3.2, hj1, hj2, hj3, rfl, k3.1⟩
      | ok z =>
        obtain ⟨r, l1⟩ := z
        rw [hT] at k3
        dsimp only at k3 ⊢
        obtain ⟨⟨q4, c4, a1, a2, a3⟩, a4⟩ := k3
        have hA : ∃ q cap, Row u2 (M + 1) 44 54 (rcF (r.rc q cap)) ∧ DgAt u2 (r.rc q cap) r.ds ∧ ∀ c o, q = some ⟨c, o, none⟩ → M + 6 ≤ c := ⟨q4, c4, a1, a2, fun c o e => by have := a3 c o e; omega⟩
        by_cases hlt : l1.length < 32
        · rw [if_pos hlt] at a4
          exact .inr ⟨6, a4, hj1, hj2, hj3, hA, by rw [if_pos hlt]⟩
        · rw [if_neg hlt] at a4
          refine .inl ⟨l1.drop 32, a4.1, a4.2.1, hj1, hj2, hj3, hA, ?_⟩
          rw [if_neg hlt]
          refine ⟨?_, a4.2.2⟩
          by_cases h32 : l1.length = 32
          · rw [if_pos h32, if_pos (List.drop_of_length_le (by omega))]
          · rw [if_neg h32, if_neg (fun h => by have := congrArg List.length h; rw [List.length_drop] at this; simp at this; omega)]))
  have HBW0 := Lib.hid (show ∀ (u u2 : World), Below M w u → M + 3 ≤ u.heap.size → Kp M u u2 → Below M w u2 from fun u u2 h1 h2 h3 => by exact h1.trans (h3.below (Nat.le_refl _) (by omega)))
  have HSL := Lib.hid (And.intro hs (And.intro hl (And.intro hTb hM)))
  have HZ := Lib.hid (And.intro z1 z2)
  clear hB1 hB2 hB3 z1 z2 z3 hR2 hR4 hR5 hR23 hR43 hBW hs3 hpp hs hl hq hTb
  go_enter Tryz.func184, Tryz.ntmps184
  try rw [hM]
  go_wp2_with fail
  clear hW1 hW2 hW3
  try rw [hM]
  try rw [HZ.out.1]
  try rw [HZ.out.2]
  refine HRD.out.mono ?_
  rintro e u3 ⟨code, rfl, hJ⟩
  obtain ⟨j1, j2, j3, j4⟩ := hJ
  have HJ := Lib.hid (And.intro j1 (And.intro j2 j3))
  clear j1 j2 j3 HRD hM
  cases hT : takeRc l with
  | error c' =>
    rw [hT] at j4
    obtain ⟨rfl, hc0⟩ := j4
    obtain rfl : PC = (code, none) := by rw [← HPE.out]; unfold parseC; rw [hT]
    have hci : ¬ (code : Int) = 0 := by omega
    have hcd : decide ((code : Int) = 0) = false := decide_eq_false hci
    obtain ⟨u9, hst9, hR9, hK9⟩ := storeRT rtP HJ.out.2.2 rc0
    have HR9 := Lib.hid hR9
    have HB9 := Lib.hid (HBW0.out u3 u9 HJ.out.1 HJ.out.2.1 hK9)
    clear hR9 hK9 hT hc0
    go_wp2
    refine bodyPost_ret (resR2 rtP rfl _ u9 M 44 rc0 (.int .i64 (code : Int)) rfl rfl HR9.out) rfl ?_
    exact ⟨rc0, rfl, HB9.out, rfl⟩
  | ok z =>
    obtain ⟨r, l1⟩ := z
    rw [hT] at j4
    dsimp only at j4
    obtain ⟨⟨q4, c4, a1, a2, a3⟩, a4⟩ := j4
    by_cases h32 : l1.length = 32
    · rw [if_neg (by omega), if_pos h32] at a4
      obtain ⟨rfl, a4⟩ := a4
      have htk : l1.take 32 = l1 := List.take_of_length_le (by omega)
      rw [htk] at a4
      have hln := takeRc_len hT
      have hn32 : 32 ≤ n := by have := HSL.out.2.1; omega
      have HPC := Lib.hid (show parseC l = if deq (digL (l.take (l.length - 32))) l1 then (if goodT r then (0, some r) else (1, none)) else (11, none) from by unfold parseC; rw [hT]; dsimp only; rw [if_pos h32])
      obtain ⟨d0, hd0⟩ : ∃ d, digL (l.take (l.length - 32)) = d := ⟨_, rfl⟩
      obtain ⟨d1, hd1⟩ : ∃ d, l1 = d := ⟨_, rfl⟩
      rw [hd0, hd1] at HPC
      rw [hd1] at a4 h32
      have HR4 := Lib.hid a1
      have HR2 := Lib.hid HJ.out.2.2
      have HDG := Lib.hid a2
      have HQB := Lib.hid a3
      have HRP := Lib.hid (show (r.rc q4 c4).path.length = r.path.length from by unfold RcT.rc; rw [pS_len])
      have HRL := Lib.hid hln.2
      have HMM := Lib.hid HSL.out.2.2.2
      obtain ⟨k9, hk9⟩ : ∃ k, n - 32 = k := ⟨_, rfl⟩
      have HS := Lib.hid (fun (u : World) (hu : Below u3.heap.size u3 u) => (show _ ∧ _ from ⟨ld_dig (dgF_slX (a4.of_below hu) h32) h32, hu⟩))
      have hBu : ∀ u, Below u3.heap.size u3 u → Below w.heap.size w u := fun u hu => by have := HSL.out.2.2.2; rw [this]; exact HJ.out.1.trans (hu.mono (by have := HJ.out.2.1; omega))
      have HSM := Lib.hid (fun (b : Nat) (u : World) (hu : Below u3.heap.size u3 u) (hc4 : u.cell? ⟨b, 0, none⟩ = some (.slice q k9 cap)) => sum1_any (l.take (l.length - 32)) b 0 q k9 cap u (by rw [List.length_take]; have := HSL.out.2.1; omega) hc4 ((HSL.out.1.of_below (hBu u hu)).take _) (HSL.out.2.2.1.on (hBu u hu)) (by omega))
      rw [hd0] at HSM
      have HBW := Lib.hid (fun (u u2 : World) (hu : Below u3.heap.size u3 u) (hk : Kp M u u2) => HBW0.out u u2 (HJ.out.1.trans (hu.mono (by have := HJ.out.2.1; omega))) (Nat.le_trans HJ.out.2.1 hu.size) hk)
      have w1 : IntKind.i64.wrap ((n : Int) - 32) = (k9 : Int) := by rw [IntKind.wrap_i64]; omega
      have w2 : (n : Int) - 32 = (k9 : Int) := by omega
      have w3 : IntKind.i64.wrap (k9 : Int) = (k9 : Int) := by rw [IntKind.wrap_i64]; omega
      have hsl := fun u => sl_hiX q n cap k9 u (by omega)
      clear a1 a2 a3 a4 hT htk hln hd0 hd1 h32 hBu
      go_wp2
      refine wp_region_noPanic ?_
      refine wp_region_held_drew (S := (fun u : World => (ldT 41 (.pointer (some ⟨M + 2, 0, none⟩))).run Tryz.prog u = .ok (.value (digV d1)) u ∧ Below u3.heap.size u3 u)) (by kernel_rfl) (HS.out _ (Below.refl _ _).drew) (fun hHeld => ?_)
      generalize u3.drew = x at hHeld ⊢
      refine wpAnyH_take (i := 0) (v := ?_) (by simp only [List.getElem?_toArray, List.getElem?_cons_succ, List.getElem?_cons_zero]; exact rfl) (by kernel_rfl) (by kernel_rfl) (by kernel_rfl) (fun _ _ _ h => h) (Or.inl ⟨by rfl, ?_⟩) (by assumption) ?_
      rotate_left 1
      · (intro w hSw; (try dsimp only at hSw); go_simp; try with_reducible rfl)
      try simp only [Act.put, List.setIfInBounds_toArray, List.set_cons_zero, List.set_cons_succ]
      refine wpAnyH_take (i := 1) (v := ?_) (by simp only [List.getElem?_toArray, List.getElem?_cons_succ, List.getElem?_cons_zero]; exact rfl) (by kernel_rfl) (by kernel_rfl) (by kernel_rfl) (fun _ _ _ h => h) (Or.inl ⟨by rfl, ?_⟩) (by assumption) ?_
      rotate_left 1
      · (intro w hSw; (try dsimp only at hSw); go_simp; try with_reducible rfl)
      try simp only [Act.put, List.setIfInBounds_toArray, List.set_cons_zero, List.set_cons_succ]
      refine wpAnyH_take (i := 2) (v := ?_) (by simp only [List.getElem?_toArray, List.getElem?_cons_succ, List.getElem?_cons_zero]; exact rfl) (by kernel_rfl) (by kernel_rfl) (by kernel_rfl) (fun _ _ _ h => h) (Or.inl ⟨by rfl, ?_⟩) (by assumption) ?_
      rotate_left 1
      · (intro w hSw; (try dsimp only at hSw); go_simp; try with_reducible rfl)
      try simp only [Act.put, List.setIfInBounds_toArray, List.set_cons_zero, List.set_cons_succ]
      refine wpAnyH_take (i := 3) (v := ?_) (by simp only [List.getElem?_toArray, List.getElem?_cons_succ, List.getElem?_cons_zero]; exact rfl) (by kernel_rfl) (by kernel_rfl) (by kernel_rfl) (fun _ _ _ h => h) (Or.inl ⟨by rfl, ?_⟩) (by assumption) ?_
      rotate_left 1
      · (intro w hSw; (try dsimp only at hSw); go_simp; try with_reducible rfl)
      try simp only [Act.put, List.setIfInBounds_toArray, List.set_cons_zero, List.set_cons_succ]
      refine wpAnyH_take (i := 4) (v := ?_) (by simp only [List.getElem?_toArray, List.getElem?_cons_succ, List.getElem?_cons_zero]; exact rfl) (by kernel_rfl) (by kernel_rfl) (by kernel_rfl) (fun _ _ _ h => h) (Or.inl ⟨by rfl, ?_⟩) (by assumption) ?_
      rotate_left 1
      · (intro w hSw; (try dsimp only at hSw); go_simp; try with_reducible rfl)
      try simp only [Act.put, List.setIfInBounds_toArray, List.set_cons_zero, List.set_cons_succ]
      refine wpAnyH_take (i := 7) (v := ?_) (by simp only [List.getElem?_toArray, List.getElem?_cons_succ, List.getElem?_cons_zero]; exact rfl) (by kernel_rfl) (by kernel_rfl) (by kernel_rfl) (fun _ _ _ h => h) (Or.inl ⟨by rfl, ?_⟩) (by assumption) ?_
      rotate_left 1
      · (intro w hSw; (try dsimp only at hSw); go_simp; try with_reducible rfl)
      try simp only [Act.put, List.setIfInBounds_toArray, List.set_cons_zero, List.set_cons_succ]
      refine wpAnyH_ready (rs := [5]) (by kernel_rfl) (by simp) ?_
      refine (AllReadyH.cons (by simp only [List.getElem?_toArray, List.getElem?_cons_succ, List.getElem?_cons_zero]; exact rfl) (fun K hK => ?_) AllReadyH.nil)
      go_simp
      obtain ⟨y, hy⟩ : ∃ y, (x.alloc (.cells #[.slice q k9 cap] 56)) = y := ⟨_, rfl⟩
      have hBa : Below x.heap.size x y := by rw [← hy]; exact below_newD _ _
      have hC := (show y.cell? ⟨x.heap.size, 0, none⟩ = some (.slice q k9 cap) from by rw [← hy]; exact World.cell?_alloc_new _ _ _ _)
      rw [hy]
      have hXY := hHeld.2.trans (hBa.mono hHeld.2.size)
      clear hy hBa
      refine hK.out _ _ (HS.out _ hXY) (fun hHeld => ?_)
      clear hK K
      try simp only [Act.put, List.setIfInBounds_toArray, List.set_cons_zero, List.set_cons_succ]
      refine wpAnyH_ready (rs := [6]) (by kernel_rfl) (by simp) ?_
      refine (AllReadyH.cons (by simp only [List.getElem?_toArray, List.getElem?_cons_succ, List.getElem?_cons_zero]; exact rfl) (fun K hK => ?_) AllReadyH.nil)
      go_simp
      refine (HSM.out x.heap.size y hXY hC).mono ?_
      rintro e z ⟨rfl, hb5⟩
      have hXZ := hXY.trans (hb5.mono hXY.size)
      go_wp2_with fail
      refine hK.out _ _ (HS.out _ hXZ) (fun hHeld => ?_)
      clear hK K
      try simp only [Act.put, List.setIfInBounds_toArray, List.set_cons_zero, List.set_cons_succ]
      refine wpAnyH_take (i := 8) (v := ?_) (by simp only [List.getElem?_toArray, List.getElem?_cons_succ, List.getElem?_cons_zero]; exact rfl) (by kernel_rfl) (by kernel_rfl) (by kernel_rfl) (fun _ _ _ h => h) (Or.inl ⟨by rfl, ?_⟩) (by assumption) ?_
      rotate_left 1
      · (intro w hSw; (try dsimp only at hSw); go_simp; try with_reducible rfl)
      try simp only [Act.put, List.setIfInBounds_toArray, List.set_cons_zero, List.set_cons_succ]
      refine wpAnyH_take (i := 9) (v := ?_) (by simp only [List.getElem?_toArray, List.getElem?_cons_succ, List.getElem?_cons_zero]; exact rfl) (by kernel_rfl) (by kernel_rfl) (by kernel_rfl) (fun _ _ _ h => h) (Or.inl ⟨by rfl, ?_⟩) (by assumption) ?_
      rotate_left 1
      · (intro w hSw; (try dsimp only at hSw); go_simp; try with_reducible rfl)
      try simp only [Act.put, List.setIfInBounds_toArray, List.set_cons_zero, List.set_cons_succ]
      refine wpAnyH_done (by kernel_rfl) ?_ _
      refine NoPanic.normal ?_
      have HZ := Lib.hid hHeld.2
      clear hHeld
      obtain ⟨uz, huz⟩ : ∃ uz, z = uz := ⟨_, rfl⟩
      rw [huz] at HZ ⊢
      clear huz
      cases hdq : deq d0 d1 with
      | false =>
        rw [hdq] at HPC
        obtain ⟨u9, hst9, hR9, hK9⟩ := storeRT rtP (HR2.out.of_below HZ.out) rc0
        have HR9 := Lib.hid hR9
        have HB9 := Lib.hid (HBW.out uz u9 HZ.out hK9)
        obtain rfl : PC = (11, none) := by rw [← HPE.out, HPC.out]; rfl
        clear hR9 hK9
        go_wp2
        refine bodyPost_ret (resR2 rtP rfl _ u9 M 44 rc0 (.int .i64 11) rfl rfl HR9.out) rfl ?_
        exact ⟨rc0, rfl, HB9.out, rfl⟩
      | true =>
        rw [hdq] at HPC
        have l1 := loadRT rtP (HR4.out.of_below HZ.out)
        have HGD := Lib.hid (good10_any (r.rc q4 c4) (by rw [HRP.out]; have := HRL.out; omega) HDG.out.whole uz)
        have hgr : goodR (r.rc q4 c4) = goodT r := rfl
        rw [hgr] at HGD
        clear hgr
        cases hg : goodT r with
        | false =>
          rw [hg] at HGD HPC
          obtain rfl : PC = (1, none) := by rw [← HPE.out, HPC.out]; rfl
          go_wp2_with fail
          clear l1
          refine HGD.out.mono ?_
          rintro e ux ⟨rfl, hBx⟩
          have hZx := HZ.out.trans (hBx.mono HZ.out.size)
          obtain ⟨u9, hst9, hR9, hK9⟩ := storeRT rtP (HR2.out.of_below hZx) rc0
          have HR9 := Lib.hid hR9
          have HB9 := Lib.hid (HBW.out ux u9 hZx hK9)
          clear hR9 hK9 hBx hZx
          go_wp2
          refine bodyPost_ret (resR2 rtP rfl _ u9 M 44 rc0 (.int .i64 1) rfl rfl HR9.out) rfl ?_
          exact ⟨rc0, rfl, HB9.out, rfl⟩
        | true =>
          rw [hg] at HGD HPC
          obtain rfl : PC = (0, some r) := by rw [← HPE.out, HPC.out]; rfl
          go_wp2_with fail
          clear l1
          refine HGD.out.mono ?_
          rintro e ux ⟨rfl, hBx⟩
          have hZx := HZ.out.trans (hBx.mono HZ.out.size)
          have l1 := loadRT rtP (HR4.out.of_below hZx)
          obtain ⟨u9, hst9, hR9, hK9⟩ := storeRT rtP (HR2.out.of_below hZx) (r.rc q4 c4)
          have HR9 := Lib.hid hR9
          have HB9 := Lib.hid (HBW.out ux u9 hZx hK9)
          have HD9 := Lib.hid ((HDG.out.of_below hZx).keep (fun c o e hlt => hK9.block c hlt (by have := HQB.out c o e; omega)))
          clear hR9 hK9 hBx hZx
          go_wp2
          refine bodyPost_ret (resR2 rtP rfl _ u9 M 44 (r.rc q4 c4) (.int .i64 0) rfl rfl HR9.out) rfl ?_
          exact ⟨_, rfl, HB9.out, q4, c4, rfl, HD9.out, fun c o e => by have := HQB.out c o e; omega⟩
    · have hcode : code = 6 := by
        by_cases hlt : l1.length < 32
        · rw [if_pos hlt] at a4; exact a4
        · rw [if_neg hlt, if_neg h32] at a4; exact a4.1
      subst hcode
      obtain rfl : PC = (6, none) := by rw [← HPE.out]; unfold parseC; rw [hT]; dsimp only; rw [if_neg h32]
      obtain ⟨u9, hst9, hR9, hK9⟩ := storeRT rtP HJ.out.2.2 rc0
      have HR9 := Lib.hid hR9
      have HB9 := Lib.hid (HBW0.out u3 u9 HJ.out.1 HJ.out.2.1 hK9)
      clear hR9 hK9 hT a1 a2 a3 a4 h32
      go_wp2
      refine bodyPost_ret (resR2 rtP rfl _ u9 M 44 rc0 (.int .i64 6) rfl rfl HR9.out) rfl ?_
      exact ⟨rc0, rfl, HB9.out, rfl⟩
end Go.Proofs.YtkajeepbelfpiaaGreatDoor
/- Bytes of the reference: the encoding of a good vector. -/
set_option maxRecDepth 100000
namespace Go.Proofs.YtkajeepbelfpiaaGreatDoor
open Go Go.RowKit
attribute [-go_sem] Sha.exec_store

attribute [local go_sem ↓] exec_boxA exec_loadA exec_indexA exec_allocA exec_storeA exec_buildA exec_eqlA exec_neqA exec_boxV exec_loadV exec_indexV exec_allocV exec_storeV exec_buildV exec_eqlV exec_neqV
attribute [local go_sem] boxA indexA storeNewA buildA eqlA neqA boxV indexV storeNewV buildV eqlV neqV
end Go.Proofs.YtkajeepbelfpiaaGreatDoor
/- Bytes that a call made and that may be written; a string as bytes. -/
set_option maxRecDepth 100000
namespace Go.Proofs.YtkajeepbelfpiaaGreatDoor
open Go Go.RowKit
attribute [-go_sem] Sha.exec_store

/-- The bytes b lie at q, in a block from base on, and may be written. -/
structure Fresh (w : World) (base : Nat) (q : Option Addr) (c : Nat) (b : List (BitVec 8)) : Prop where
  sl : Sl w q b
  nil : q = none → c = 0
  le : b.length ≤ c
  new : 0 < b.length → ∀ d o, q = some ⟨d, o, none⟩ → base ≤ d ∧ d < w.heap.size
  free : ∀ j, j < b.length → ∀ d o, q = some ⟨d, o, none⟩ → w.frozen? ⟨d, o + j, none⟩ = false
section
variable {w w' : World} {base : Nat} {q : Option Addr} {c : Nat} {b : List (BitVec 8)}
theorem Fresh.keep (h : Fresh w base q c b) (hs : w.heap.size ≤ w'.heap.size) (k : ∀ d, base ≤ d → d < w.heap.size → w'.heap[d]? = w.heap[d]?) : Fresh w' base q c b := by
  have hk : ∀ d o, 0 < b.length → q = some ⟨d, o, none⟩ → w'.heap[d]? = w.heap[d]? := fun d o hb e => k d (h.new hb d o e).1 (h.new hb d o e).2
  refine ⟨fun j hj => ?_, h.nil, h.le, fun hb d o e => ⟨(h.new hb d o e).1, Nat.lt_of_lt_of_le (h.new hb d o e).2 hs⟩, fun j hj d o e => ?_⟩
  · obtain ⟨d, o, e, hx⟩ := h.sl j hj
    exact ⟨d, o, e, by rw [World.cell?_of_block (w := w) (hk d o (by omega) e)]; exact hx⟩
  · rw [World.frozen?_of_block (w := w) (hk d o (by omega) e)]
    exact h.free j hj d o e
theorem Fresh.lower (h : Fresh w base q c b) {b2 : Nat} (hb : b2 ≤ base) : Fresh w b2 q c b :=
  ⟨h.sl, h.nil, h.le, fun hl d o e => ⟨Nat.le_trans hb (h.new hl d o e).1, (h.new hl d o e).2⟩, h.free⟩
theorem Fresh.of_below (h : Fresh w base q c b) (k : Below w.heap.size w w') : Fresh w' base q c b := h.keep k.size fun d _ hd => k.block d hd
theorem Fresh.far (h : Fresh w base q c b) {y : Nat} (hy : y < base) (o : Nat) (v : Value) : Fresh (w.setCell ⟨y, o, none⟩ v) base q c b :=
  h.keep (by simp) fun d hd _ => Below.heap_setCell _ _ _ _ (by show d ≠ y; omega)
theorem Fresh.nothing (w : World) (base : Nat) : Fresh w base none 0 [] := ⟨Sl.nil _ _, fun _ => rfl, Nat.le_refl _, fun h => absurd h (Nat.lt_irrefl 0), fun j hj => absurd hj (Nat.not_lt_zero j)⟩
theorem OwnB.fresh {v : Value} (h : OwnB w base v b) : ∃ q c, v = .slice q b.length c ∧ Fresh w base q c b := by
  obtain ⟨q, c, rfl, hs, hp, hc⟩ := h.shape
  refine ⟨q, c, rfl, hs, hp, hc, fun _ d o e => h.lt d (by rw [e]; rfl), fun j hj d o e => ?_⟩
  rcases h.2 with ⟨hv, hl⟩ | ⟨g, cap, cur, hv, _, hg, _⟩
  · injection hv with e1 e2 e3
    rw [e1] at e; cases e
  · injection hv with e1 e2 e3
    rw [e1] at e
    injection e with e
    injection e with e4 e5
    subst e4
    simp only [World.frozen?, hg]
    simp
theorem Row.fresh {E : Nat} {T : TypeId} (h : Row w E T 32 (dgF b)) (hb : base ≤ E) (hl : b.length = 32) : Fresh w base (some ⟨E, 0, none⟩) 32 b :=
  ⟨Sl.row h (by omega) fun j hj => rfl, (fun e => by cases e), by omega, fun _ d o e => by injection e with e; injection e with e1 e2; subst e1; exact ⟨hb, h.lt⟩, fun j hj d o e => by injection e with e; injection e with e1 e2; subst e1; exact h.free _⟩
end
theorem strOf_size (b : List (BitVec 8)) : (strOf b).size = b.length := by simp [strOf, ByteArray.size]
end Go.Proofs.YtkajeepbelfpiaaGreatDoor
