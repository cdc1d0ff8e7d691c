/- Bump and Merge of the program. -/
import Derived.Test.YtjpennbmphhipaaDoorMrg9
import Derived.Lib.MinMax
set_option linter.unusedSimpArgs false
set_option maxRecDepth 100000
set_option linter.unusedVariables false
namespace Go.Proofs.YtjpennbmphhipaaDoor
open Go Go.RowKit

attribute [local go_sem ↓] exec_boxA exec_loadA exec_indexA exec_allocA exec_storeA exec_buildA exec_eqlA exec_neqA exec_boxV exec_loadV exec_indexV exec_allocV exec_storeV exec_buildV exec_eqlV exec_neqV
attribute [local go_sem] boxA indexA storeNewA buildA eqlA neqA boxV indexV storeNewV buildV eqlV neqV

theorem resV2 {fn : Func} {p q : Tmp} {T : TypeId} (hT : VT T) (h : fn.results = #[.cell p T, .tmp q]) (tmps : Array Value) (w : World) (b : Nat) (T2 : TypeId) (f : Nat → Int) (v : Value) (hp : tmps.getD p undef = .pointer (some ⟨b, 0, none⟩)) (hq : tmps.getD q undef = v) (hR : Row w b T2 16 (vf f)) : (results fn tmps).run Tryd.prog w = .ok (.tuple #[vcV f, v]) w := by
  have hp' : tmps[p]?.getD undef = .pointer (some ⟨b, 0, none⟩) := by simpa using hp
  have hq' : tmps[q]?.getD undef = v := by simpa using hq
  have hl := run_loadVar_row (P := Tryd.prog) w b T2 T (tab 16 (vf f)) (0, 0) _ hR hT.und rfl (by rw [hT.size, tab_size])
  unfold vcV
  simp [results, h, hp', hq', asAddr, hl]
def bmOk (f : Nat → Int) (r : Int) : Bool := decide (0 ≤ r) && decide (r < 16) && decide (f r.toNat < 1099511627776)
def bmV (f : Nat → Int) (r : Int) : Nat → Int := if bmOk f r then (fun i => if i = r.toNat then f i + 1 else f i) else fun _ => 0
def bmE (f : Nat → Int) (r : Int) : Int := if bmOk f r then 0 else 1
theorem bm_no {f : Nat → Int} {r : Int} (h : bmOk f r = false) : bmV f r = (fun _ => 0) ∧ bmE f r = 1 := by unfold bmV bmE; rw [h]; exact ⟨rfl, rfl⟩
theorem bm_yes {f : Nat → Int} {r : Nat} (h : bmOk f r = true) : bmV f r = (fun i => if i = r then f i + 1 else f i) ∧ bmE f r = 0 := by unfold bmV bmE; rw [h]; exact ⟨rfl, rfl⟩
set_option maxRecDepth 100000 in
set_option maxHeartbeats 2000000 in
theorem bump_any (f : Nat → Int) (hg : gdV f = true) (r : Int) (w : World) : Calls Tryd.prog 31 #[vcV f, .int .i64 r] w fun e w' => e = .returned (.tuple #[vcV (bmV f r), .int .i64 (bmE f r)]) ∧ Below w.heap.size w w' := by
  have HS : Hid (Row ((w.alloc (.cells (tab 16 (vf f)) 28)).alloc (.cells (tab 16 (vf fun _ => 0)) 28)) w.heap.size 28 16 (vf f) ∧ Row ((w.alloc (.cells (tab 16 (vf f)) 28)).alloc (.cells (tab 16 (vf fun _ => 0)) 28)) (w.heap.size + 1) 28 16 (vf fun _ => 0) ∧ Below w.heap.size w ((w.alloc (.cells (tab 16 (vf f)) 28)).alloc (.cells (tab 16 (vf fun _ => 0)) 28))) := Lib.hid (twoRows w 28 (vf f) (vf fun _ => 0) 16)
  obtain ⟨W, hW⟩ : ∃ W, (w.alloc (.cells (tab 16 (vf f)) 28)).alloc (.cells (tab 16 (vf fun _ => 0)) 28) = W := ⟨_, rfl⟩
  have HE := Lib.hid hW
  rw [hW] at HS
  have HG := Lib.hid (gdV_iff.1 hg)
  have hzero : ∀ (hno : bmOk f r = false), Hid (∃ w5, (stT 28 (.pointer (some ⟨w.heap.size + 1, 0, none⟩)) (vcV fun _ => 0)).run Tryd.prog ((w.alloc (.cells (tab 16 (vf f)) 28)).alloc (.cells (tab 16 (vf fun _ => 0)) 28)) = .ok .skip w5 ∧ Row w5 (w.heap.size + 1) 28 16 (vf (bmV f r)) ∧ Below w.heap.size w w5 ∧ bmE f r = 1) := fun hno => Lib.hid (by
    obtain ⟨e1, e2⟩ := bm_no hno
    obtain ⟨w5, h1, h2, h3⟩ := storeVT vtV HS.out.2.1 (fun _ => 0)
    rw [hW]
    exact ⟨w5, h1, by rw [e1]; exact h2, HS.out.2.2.trans (h3.below (by omega) HS.out.2.2.size), e2⟩)
  clear hW hg
  by_cases h0 : r < 0
  · have t0 : decide (r < 0) = true := decide_eq_true h0
    obtain ⟨w5, hs, hR5, hB5, hE5⟩ := (hzero (by unfold bmOk; rw [show decide (0 ≤ r) = false from decide_eq_false (by omega)]; rfl)).out
    have HR5 := Lib.hid hR5
    have HB5 := Lib.hid hB5
    have HE5 := Lib.hid hE5
    clear hzero hR5 hB5 hE5 HG
    go_enter Tryd.func31, Tryd.ntmps31
    go_wp2
    refine bodyPost_ret (resV2 vtV rfl _ w5 (w.heap.size + 1) 28 (bmV f r) (.int .i64 1) rfl rfl HR5.out) rfl ?_
    exact ⟨by rw [HE5.out], HB5.out⟩
  · have t0 : decide (r < 0) = false := decide_eq_false h0
    by_cases h16 : 16 ≤ r
    · have t1 : decide (16 ≤ r) = true := decide_eq_true h16
      obtain ⟨w5, hs, hR5, hB5, hE5⟩ := (hzero (by unfold bmOk; rw [show decide (r < 16) = false from decide_eq_false (by omega), Bool.and_false]; rfl)).out
      have HR5 := Lib.hid hR5
      have HB5 := Lib.hid hB5
      have HE5 := Lib.hid hE5
      clear hzero hR5 hB5 hE5 HG
      go_enter Tryd.func31, Tryd.ntmps31
      go_wp2
      refine bodyPost_ret (resV2 vtV rfl _ w5 (w.heap.size + 1) 28 (bmV f r) (.int .i64 1) rfl rfl HR5.out) rfl ?_
      exact ⟨by rw [HE5.out], HB5.out⟩
    · obtain ⟨k, rfl⟩ := Int.eq_ofNat_of_zero_le (show 0 ≤ r by omega)
      have hk : k < 16 := by omega
      have t1 : decide (16 ≤ (k : Int)) = false := decide_eq_false h16
      have hr1 := HS.out.1
      have x1 : ((w.alloc (.cells (tab 16 (vf f)) 28)).alloc (.cells (tab 16 (vf fun _ => 0)) 28)).cell? ⟨w.heap.size, k, none⟩ = some (.int .i64 (f k)) := by rw [HE.out]; exact hr1.cell k hk
      have hgk := HG.out k hk
      clear hr1
      by_cases hm : 1099511627776 ≤ f k
      · have t2 : decide (1099511627776 ≤ f k) = true := decide_eq_true hm
        obtain ⟨w5, hs, hR5, hB5, hE5⟩ := (hzero (by unfold bmOk; rw [show decide (f (k : Int).toNat < 1099511627776) = false from decide_eq_false (by rw [Int.toNat_natCast]; omega), Bool.and_false])).out
        have HR5 := Lib.hid hR5
        have HB5 := Lib.hid hB5
        have HE5 := Lib.hid hE5
        clear hzero hR5 hB5 hE5 HG
        go_enter Tryd.func31, Tryd.ntmps31
        go_wp2
        refine bodyPost_ret (resV2 vtV rfl _ w5 (w.heap.size + 1) 28 (bmV f k) (.int .i64 1) rfl rfl HR5.out) rfl ?_
        exact ⟨by rw [HE5.out], HB5.out⟩
      · have t2 : decide (1099511627776 ≤ f k) = false := decide_eq_false hm
        have hok : bmOk f k = true := by
          unfold bmOk
          rw [decide_eq_true (show (0 : Int) ≤ (k : Int) by omega), decide_eq_true (show (k : Int) < 16 by omega), decide_eq_true (show f (k : Int).toNat < 1099511627776 by rw [Int.toNat_natCast]; omega)]
          rfl
        obtain ⟨e1, e2⟩ := bm_yes hok
        have hwf : IntKind.i64.wrap (f k + 1) = f k + 1 := by rw [IntKind.wrap_i64]; omega
        have hw5 : ((W.setCell ⟨w.heap.size, k, none⟩ (.int .i64 (f k + 1)))).heap.size = W.heap.size := by simp
        have hR6 : Row (W.setCell ⟨w.heap.size, k, none⟩ (.int .i64 (f k + 1))) w.heap.size 28 16 (vf (bmV f k)) := (HS.out.1.set k (.int .i64 (f k + 1))).congr fun j hj => by
          unfold vf
          rw [e1]
          by_cases e : j = k
          · subst e; simp
          · simp [e]
        have hR7 : Row (W.setCell ⟨w.heap.size, k, none⟩ (.int .i64 (f k + 1))) (w.heap.size + 1) 28 16 (vf fun _ => 0) := HS.out.2.1.of_block (Below.heap_setCell _ _ _ _ (by show w.heap.size + 1 ≠ w.heap.size; omega))
        have l6 := loadVT vtV (VecAt.of_row hR6 (Nat.le_refl _))
        obtain ⟨w5, hs, hR5, hK5⟩ := storeVT vtV hR7 (bmV f k)
        have HR5 := Lib.hid hR5
        have HB5 := Lib.hid (show Below w.heap.size w w5 from (HS.out.2.2.setCell (Nat.le_refl _) _).trans (hK5.below (by omega) (by rw [hw5]; exact HS.out.2.2.size)))
        have HE5 := Lib.hid e2
        have x3 := HS.out.1.free k
        rw [← HE.out] at l6 hs x3
        have hq : ((w.alloc (.cells (tab 16 (vf f)) 28)).alloc (.cells (tab 16 (vf fun _ => 0)) 28)).setCell ⟨w.heap.size, k, none⟩ (.int .i64 (f k + 1)) = (w.alloc (.cells ((tab 16 (vf f)).setIfInBounds k (.int .i64 (f k + 1))) 28)).alloc (.cells (tab 16 (vf fun _ => 0)) 28) := by
          simp [go_sem]
        rw [hq] at l6 hs
        clear hzero hR5 hR6 hR7 hK5 e1 e2 hok hw5 hgk HG hq
        go_enter Tryd.func31, Tryd.ntmps31
        go_wp2
        refine bodyPost_ret (resV2 vtV rfl _ w5 (w.heap.size + 1) 28 (bmV f k) (.int .i64 0) rfl rfl HR5.out) rfl ?_
        exact ⟨by rw [HE5.out], HB5.out⟩
end Go.Proofs.YtjpennbmphhipaaDoor
