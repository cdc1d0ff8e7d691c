/- Merged texts: Gon10, Ofp10, Bad10. -/
import Derived.Test.YtfemgkamgokjcaaDoorK3
import Derived.Test.YtfemgkamgokjcaaDoorK4
import Derived.Deep.RegionHeld3
import Derived.Test.YtfemgkamgokjcaaDoorK2
set_option linter.unusedSimpArgs false
set_option linter.unusedVariables false
/- The record of what is gone; a record in the words of the reference. -/
set_option maxRecDepth 100000
namespace Go.Proofs.YtfemgkamgokjcaaDoor
open Go Go.RowKit

attribute [-go_sem] Sha.exec_store
theorem exec_storeP (r : Operand → Value) (dst : Option Tmp) (p v : Operand) (ty : TypeId) (pos : String) (after : Array Edge) (guard : Option (Nat × Bool)) :
    execOp r ⟨dst, .store 33 p v, ty, pos, after, guard⟩ = stT 33 (r p) (r v) := rfl
theorem exec_storeM (r : Operand → Value) (dst : Option Tmp) (p v : Operand) (ty : TypeId) (pos : String) (after : Array Edge) (guard : Option (Nat × Bool)) :
    execOp r ⟨dst, .store 26 p v, ty, pos, after, guard⟩ = stT 26 (r p) (r v) := rfl
theorem storeNewP (w : World) (N : Nat) (T2 : TypeId) (g : Nat → Value) (r : Rc) (hN : N = w.heap.size) : (stT 33 (.pointer (some ⟨N, 0, none⟩)) (rcV r)).run Tryd.prog (w.alloc (.cells (tab 54 g) T2)) = .ok .skip (w.alloc (.cells (tab 54 (rcF r)) T2)) := storeNewRT rtP w N T2 g r hN
theorem storeNewM (w : World) (N : Nat) (T2 : TypeId) (g : Nat → Value) (r : Rc) (hN : N = w.heap.size) : (stT 26 (.pointer (some ⟨N, 0, none⟩)) (rcV r)).run Tryd.prog (w.alloc (.cells (tab 54 g) T2)) = .ok .skip (w.alloc (.cells (tab 54 (rcF r)) T2)) := storeNewRT rtM w N T2 g r hN
theorem RT.undd {T : TypeId} (hT : RT T) : (∃ fs, Tryd.prog.underlying T = some (.struct fs)) ∨ ∃ n e, Tryd.prog.underlying T = some (.array n e) := by
  have hr := hT.und
  cases hq : Tryd.prog.underlying T with
  | none => rw [hq] at hr; cases hr
  | some d =>
    rw [hq] at hr
    cases d with
    | struct fs => exact .inl ⟨_, rfl⟩
    | array n e => exact .inr ⟨_, _, rfl⟩
    | _ => exact absurd hr (by simp [TypeDesc.isRow])
theorem resR {fn : Func} {p : Tmp} {T : TypeId} (hT : RT T) (h : fn.results = #[.cell p T]) (tmps : Array Value) (w : World) (b : Nat) (T2 : TypeId) (r : Rc) (hp : tmps.getD p undef = .pointer (some ⟨b, 0, none⟩)) (hR : Row w b T2 54 (rcF r)) : (results fn tmps).run Tryd.prog w = .ok (rcV r) w := by
  unfold rcV
  rcases hT.undd with ⟨d, hu⟩ | ⟨d, e, hu⟩
  · exact results_cell_row (P := Tryd.prog) h tmps w b T2 (tab 54 (rcF r)) (0, 0) _ hp hR hu rfl (by rw [hT.size, tab_size])
  · exact results_cell_row (P := Tryd.prog) h tmps w b T2 (tab 54 (rcF r)) (0, 0) _ hp hR hu rfl (by rw [hT.size, tab_size])
theorem resR2 {fn : Func} {p q : Tmp} {T : TypeId} (hT : RT T) (h : fn.results = #[.cell p T, .tmp q]) (tmps : Array Value) (w : World) (b : Nat) (T2 : TypeId) (r : Rc) (v : Value) (hp : tmps.getD p undef = .pointer (some ⟨b, 0, none⟩)) (hq : tmps.getD q undef = v) (hR : Row w b T2 54 (rcF r)) : (results fn tmps).run Tryd.prog w = .ok (.tuple #[rcV r, v]) w := by
  have hl : (loadVar T ⟨b, 0, none⟩).run Tryd.prog w = .ok (.agg (tab 54 (rcF r))) w := by
    rcases hT.undd with ⟨d, hu⟩ | ⟨d, e, hu⟩
    · exact run_loadVar_row (P := Tryd.prog) w b T2 T (tab 54 (rcF r)) (0, 0) _ hR hu rfl (by rw [hT.size, tab_size])
    · exact run_loadVar_row (P := Tryd.prog) w b T2 T (tab 54 (rcF r)) (0, 0) _ hR hu rfl (by rw [hT.size, tab_size])
  have hp' : tmps[p]?.getD undef = .pointer (some ⟨b, 0, none⟩) := by simpa using hp
  have hq' : tmps[q]?.getD undef = v := by simpa using hq
  unfold rcV
  simp [results, h, hp', hq', asAddr, hl]
attribute [local go_sem ↓] exec_boxA exec_loadA exec_indexA exec_allocA exec_storeA exec_buildA exec_eqlA exec_neqA exec_boxV exec_loadV exec_indexV exec_allocV exec_storeV exec_buildV exec_eqlV exec_neqV
attribute [local go_sem] boxA indexA storeNewA buildA eqlA neqA boxV indexV storeNewV buildV eqlV neqV
attribute [local go_sem ↓] exec_loadS exec_boxS exec_boxP exec_boxM exec_allocP exec_allocM exec_storeP exec_storeM exec_buildP exec_buildM exec_buildS exec_load32 exec_build32 exec_eqlD exec_neqD
attribute [local go_sem] box_stamp boxP boxM storeNewP storeNewM bd32 eqlD neqD bdM0 bdP0 bdS3 bdM8 bdM5 bdP6 bdP5 bdP4

set_option maxRecDepth 100000 in
set_option maxHeartbeats 4000000 in
theorem ref10_any (r : Rc) (hw : r.whole.length = 32) (w : World) : Calls Tryd.prog 10 #[rcV r] w fun e w' => e = .returned (rcV r) ∧ Below w.heap.size w w' := by
  obtain ⟨W, hW⟩ : ∃ W, w.alloc (.cells (tab 54 (rcF r)) 33) = W := ⟨_, rfl⟩
  obtain ⟨W2, hW2⟩ : ∃ W2, W.alloc (.cells (tab 54 (rcF rc0)) 26) = W2 := ⟨_, rfl⟩
  have hR : Row W w.heap.size 33 54 (rcF r) := by rw [← hW]; exact Row.new w _ 54 (rcF r)
  have hB : Below w.heap.size w W := by rw [← hW]; exact (Below.refl _ _).alloc (Nat.le_refl _) _
  have hB2 : Below W.heap.size W W2 := by rw [← hW2]; exact (Below.refl _ _).alloc (Nat.le_refl _) _
  have hR2 := hR.of_below hB2
  have l1 := loadVT vtV (rc_ver hR2)
  have l2 := ld_dig (rc_whole hR2 hw) hw
  have l3 := rc_path hR2
  have l4 := rc_size hR2
  have l5 := rc_time hR2
  have l6 := rc_chg hR2
  have l7 := rc_dead hR2
  have l8 := rc_blocks hR2
  have HB := Lib.hid (show Below w.heap.size w (W.alloc (.cells (tab 54 (rcF r)) 26)) from hB.alloc hB.size _)
  obtain ⟨w3, hw3⟩ : ∃ w3, W.alloc (.cells (tab 54 (rcF r)) 26) = w3 := ⟨_, rfl⟩
  rw [hw3] at HB
  have hR3 : Row w3 W.heap.size 26 54 (rcF r) := by rw [← hw3]; exact Row.new W _ 54 (rcF r)
  have HR3 := Lib.hid hR3
  have hst : (stT 26 (.pointer (some ⟨W.heap.size, 0, none⟩)) (rcV r)).run Tryd.prog W2 = .ok .skip w3 := by rw [← hW2, ← hw3]; exact storeNewM W _ _ _ r rfl
  have HE := Lib.hid hw3
  clear hR hB hB2 hR2 hR3 hw3
  obtain ⟨V, hV⟩ : ∃ V, rcV r = V := ⟨_, rfl⟩
  have hbx : (bxT 33 V).run Tryd.prog w = .ok (.value (.pointer (some ⟨w.heap.size, 0, none⟩))) W := by rw [← hV, ← hW]; exact boxP w r
  have hbd := fun u => bdM8 r.path r.size r.time r.chg r.ver r.dead r.whole r.q r.n r.cap u
  rw [show rcV ⟨r.path, r.size, r.time, r.chg, r.ver, r.dead, r.whole, r.q, r.n, r.cap⟩ = V from hV] at hbd
  rw [hV] at hst ⊢
  have HV := Lib.hid hV
  clear hV hW
  obtain ⟨p, s, t, c, f, d, wh, q, n, cap⟩ := r
  dsimp only at *
  go_enter Tryd.func10, Tryd.ntmps10
  go_wp2
  refine bodyPost_ret (resR rtM rfl _ _ W.heap.size 26 _ rfl HR3.out) rfl ?_
  exact ⟨by rw [HV.out], HB.out⟩
theorem stamp_frozen (w : World) (s t c : Int) : (w.alloc (.cells #[.int .i64 s, .int .i64 t, .int .i64 c] 30)).frozen? ⟨w.heap.size, 0, none⟩ = false := by go_simp
/-- The record of what is gone. -/
def gnR (p : S8) (t c : Int) (f : Nat → Int) : Rc := if rfE p 0 t c f = 0 then ⟨p, 0, t, c, f, true, z32, none, 0, 0⟩ else rc0
set_option maxRecDepth 100000 in
set_option maxHeartbeats 4000000 in
theorem gone_any (p : S8) (hp : p.length < 100000) (s t c : Int) (f : Nat → Int) (w : World) :
    Calls Tryd.prog 7 #[.string (mkS p), stV s t c, vcV f] w fun e w' => e = .returned (.tuple #[rcV (gnR p t c f), .int .i64 (rfE p 0 t c f)]) ∧ Below w.heap.size w w' := by
  have HF := Lib.hid (fun u => refusal_any p hp 0 t c f u)
  obtain ⟨W1, hW1⟩ : ∃ W1, w.alloc (.cells #[.int .i64 s, .int .i64 t, .int .i64 c] 30) = W1 := ⟨_, rfl⟩
  obtain ⟨W2, hW2⟩ : ∃ W2, W1.alloc (.cells (tab 16 (vf f)) 31) = W2 := ⟨_, rfl⟩
  obtain ⟨W3, hW3⟩ : ∃ W3, W2.alloc (.cells (tab 54 (rcF rc0)) 33) = W3 := ⟨_, rfl⟩
  obtain ⟨W4, hW4⟩ : ∃ W4, W3.setCell ⟨w.heap.size, 0, none⟩ (.int .i64 0) = W4 := ⟨_, rfl⟩
  have hS1 : StAt W1 w.heap.size 0 s t c := by rw [← hW1]; exact stamp_new w s t c
  have f1 : W1.frozen? ⟨w.heap.size, 0, none⟩ = false := by rw [← hW1]; exact stamp_frozen w s t c
  have hB1 : Below w.heap.size w W1 := by rw [← hW1]; exact (Below.refl _ _).alloc (Nat.le_refl _) _
  have hB2 : Below W1.heap.size W1 W2 := by rw [← hW2]; exact (Below.refl _ _).alloc (Nat.le_refl _) _
  have hB3 : Below W2.heap.size W2 W3 := by rw [← hW3]; exact (Below.refl _ _).alloc (Nat.le_refl _) _
  have z1 : W1.heap.size = w.heap.size + 1 := by rw [← hW1]; simp
  have z2 : W2.heap.size = w.heap.size + 2 := by rw [← hW2]; simp [z1]
  have hB13 : Below W1.heap.size W1 W3 := hB2.trans (hB3.mono hB2.size)
  have hlt : w.heap.size < W1.heap.size := by omega
  have hS3 := hS1.of_below hB13
  have f3 : W3.frozen? ⟨w.heap.size, 0, none⟩ = false := by rw [hB13.frozen (by exact hlt)]; exact f1
  have hR2 : Row W2 W1.heap.size 31 16 (vf f) := by rw [← hW2]; exact Row.new W1 _ 16 (vf f)
  have hR3 : Row W3 W2.heap.size 33 54 (rcF rc0) := by rw [← hW3]; exact Row.new W2 _ 54 _
  have hk4 : Kp w.heap.size W3 W4 := by rw [← hW4]; exact (Kp.refl _ _).setCell 0 _
  have hR2' : Row W4 W1.heap.size 31 16 (vf f) := by
    have := hR2.of_below hB3
    unfold Row at this ⊢
    rw [hk4.block _ (by have := hB3.size; omega) (by omega)]; exact this
  have hR3' : Row W4 W2.heap.size 33 54 (rcF rc0) := by
    unfold Row at hR3 ⊢
    rw [hk4.block _ (by have := (Array.getElem?_eq_some_iff.1 hR3).1; exact this) (by omega)]; exact hR3
  have hS4 : StAt W4 w.heap.size 0 0 t c := by
    refine ⟨by rw [← hW4]; exact World.cell?_setCell_same _ _ _ hS3.1, ?_, ?_⟩
    · rw [← hW4]
      refine Eq.trans ?_ hS3.2.1
      apply World.cell?_setCell_other
      intro h
      injection h with _ h _
      omega
    · rw [← hW4]
      refine Eq.trans ?_ hS3.2.2
      apply World.cell?_setCell_other
      intro h
      injection h with _ h _
      omega
  have hB4 : Below w.heap.size w W4 := (hB1.trans (hB13.mono hB1.size)).trans (hk4.below (Nat.le_refl _) (by have := hB13.size; omega))
  have c3 := hS3.1
  have HL1 := Lib.hid (fun (u : World) (hu : Below W4.heap.size W4 u) => (⟨ld_stamp (hS4.of_below hu), loadVT vtV (VecAt.of_row (hR2'.of_below hu) (Nat.le_refl _))⟩ : _ ∧ _))
  have HR := Lib.hid (fun (u : World) (hu : Below W4.heap.size W4 u) (r : Rc) => (show ∃ u', (stT 33 (.pointer (some ⟨W2.heap.size, 0, none⟩)) (rcV r)).run Tryd.prog u = .ok .skip u' ∧ Row u' W2.heap.size 33 54 (rcF r) ∧ Below w.heap.size w u' from by
    obtain ⟨u', h1, h2, h3⟩ := storeRT rtP (hR3'.of_below hu) r
    exact ⟨u', h1, h2, (hB4.trans (hu.mono hB4.size)).trans (h3.below (by omega) (by have := hu.size; have := hB4.size; omega))⟩))
  have HB := Lib.hid hB4
  have HX := Lib.hid (show ∀ X, rfE p 0 t c f = X → gnR p t c f = if X = 0 then ⟨p, 0, t, c, f, true, z32, none, 0, 0⟩ else rc0 from fun X h => by unfold gnR; rw [h])
  clear hS1 f1 hB1 hB2 hB3 z1 z2 hB13 hlt hS3 hR2 hR3 hk4 hR2' hR3' hS4 hB4
  obtain ⟨X, hX⟩ : ∃ X, rfE p 0 t c f = X := ⟨_, rfl⟩
  have hXX := HX.out X hX
  rw [hX] at HF ⊢
  clear hX HX
  obtain ⟨R, hR⟩ : ∃ R, gnR p t c f = R := ⟨_, rfl⟩
  rw [hR] at hXX ⊢
  have HXX := Lib.hid hXX
  clear hR hXX
  obtain ⟨l1, l2⟩ := HL1.out W4 (Below.refl _ _)
  go_enter Tryd.func7, Tryd.ntmps7
  go_wp2_with fail
  clear hW1 hW2 hW3 hW4 f3 c3 l1 l2
  refine (HF.out _).mono ?_
  rintro e u ⟨rfl, hB⟩
  by_cases hx : X = 0
  · have HRX := Lib.hid (HXX.out.trans (if_pos hx))
    subst hx
    obtain ⟨l1, l2⟩ := HL1.out u hB
    obtain ⟨u', hs, hRow, hBel⟩ := HR.out u hB R
    have HRow := Lib.hid hRow
    have HBel := Lib.hid hBel
    have hbd := bdP4 p 0 t c f false [] none 0 0 u
    rw [← HRX.out] at hbd
    clear hRow hBel hB
    go_wp2
    refine bodyPost_ret (resR2 rtP rfl _ u' W2.heap.size 33 R (.int .i64 0) rfl rfl HRow.out) rfl ?_
    exact ⟨rfl, HBel.out⟩
  · have HRX := Lib.hid (HXX.out.trans (if_neg hx))
    obtain ⟨u', hs, hRow, hBel⟩ := HR.out u hB R
    have HRow := Lib.hid hRow
    have HBel := Lib.hid hBel
    have hbd := bdP0 u
    rw [← HRX.out] at hbd
    have dx : decide (X = 0) = false := decide_eq_false hx
    clear hRow hBel hB
    go_wp2
    refine bodyPost_ret (resR2 rtP rfl _ u' W2.heap.size 33 R (.int .i64 X) rfl rfl HRow.out) rfl ?_
    exact ⟨rfl, HBel.out⟩
end Go.Proofs.YtfemgkamgokjcaaDoor
/- record.Of. -/
set_option maxRecDepth 100000
namespace Go.Proofs.YtfemgkamgokjcaaDoor
open Go Go.RowKit

attribute [-go_sem] Sha.exec_store
attribute [local go_sem ↓] exec_boxA exec_loadA exec_indexA exec_allocA exec_storeA exec_buildA exec_eqlA exec_neqA exec_boxV exec_loadV exec_indexV exec_allocV exec_storeV exec_buildV exec_eqlV exec_neqV
attribute [local go_sem] boxA indexA storeNewA buildA eqlA neqA boxV indexV storeNewV buildV eqlV neqV
attribute [local go_sem ↓] exec_loadS exec_boxS exec_boxP exec_boxM exec_allocP exec_allocM exec_storeP exec_storeM exec_buildP exec_buildM exec_buildS exec_load32 exec_build32 exec_eqlD exec_neqD
attribute [local go_sem] box_stamp boxP boxM storeNewP storeNewM bd32 eqlD neqD bdM0 bdP0 bdS3 bdM8 bdM5 bdP6 bdP4

theorem bsSl (q : Option Addr) (n cap : Nat) (w : World) : (bsT 52 1 #[(0, .slice q n cap)]).run Tryd.prog w = .ok (.value (.slice (some ⟨w.heap.size, 0, none⟩) 1 1)) (w.alloc (.cells #[.slice q n cap] 27)) := by kernel_rfl
attribute [local go_sem] bsSl
attribute [local go_sem ↓] exec_bs
/-- What the record of bytes is. -/
def OfPost (w' : World) (p : S8) (l : By) (t c : Int) (f : Nat → Int) (X : Int) (r : Rc) : Prop :=
  if X = 0 then r.path = p ∧ r.size = (l.length : Int) ∧ r.time = t ∧ r.chg = c ∧ r.ver = f ∧ r.dead = false ∧ r.whole = digL l ∧ ∃ ds, ds = digs l ∧ DgAt w' r ds else r = rc0
set_option maxRecDepth 100000 in
set_option maxHeartbeats 4000000 in
theorem of10_any (p : S8) (hp : p.length < 100000) (l : By) (q : Option Addr) (n cap : Nat) (s t c : Int) (f : Nat → Int) (w : World) (hl : l.length = n) (hsl : Sl w q l) (hc : n ≤ cap) (hn : n < 1000000) (hT : Tb w) :
    Calls Tryd.prog 6 #[.string (mkS p), .slice q n cap, stV s t c, vcV f] w fun e w' => ∃ r, e = .returned (.tuple #[rcV r, .int .i64 (rfE p (n : Int) t c f)]) ∧ Below w.heap.size w w' ∧ OfPost w' p l t c f (rfE p (n : Int) t c f) r := by
  have HF := Lib.hid (fun u => refusal_any p hp (n : Int) t c f u)
  obtain ⟨W1, hW1⟩ : ∃ W1, w.alloc (.cells #[.int .i64 s, .int .i64 t, .int .i64 c] 30) = W1 := ⟨_, rfl⟩
  obtain ⟨W2, hW2⟩ : ∃ W2, W1.alloc (.cells (tab 16 (vf f)) 31) = W2 := ⟨_, rfl⟩
  obtain ⟨W3, hW3⟩ : ∃ W3, W2.alloc (.cells (tab 54 (rcF rc0)) 33) = W3 := ⟨_, rfl⟩
  obtain ⟨W4, hW4⟩ : ∃ W4, W3.setCell ⟨w.heap.size, 0, none⟩ (.int .i64 (n : Int)) = W4 := ⟨_, rfl⟩
  have hS1 : StAt W1 w.heap.size 0 s t c := by rw [← hW1]; exact stamp_new w s t c
  have f1 : W1.frozen? ⟨w.heap.size, 0, none⟩ = false := by rw [← hW1]; exact stamp_frozen w s t c
  have hB1 : Below w.heap.size w W1 := by rw [← hW1]; exact (Below.refl _ _).alloc (Nat.le_refl _) _
  have hB2 : Below W1.heap.size W1 W2 := by rw [← hW2]; exact (Below.refl _ _).alloc (Nat.le_refl _) _
  have hB3 : Below W2.heap.size W2 W3 := by rw [← hW3]; exact (Below.refl _ _).alloc (Nat.le_refl _) _
  have z1 : W1.heap.size = w.heap.size + 1 := by rw [← hW1]; simp
  have z2 : W2.heap.size = w.heap.size + 2 := by rw [← hW2]; simp [z1]
  have hB13 : Below W1.heap.size W1 W3 := hB2.trans (hB3.mono hB2.size)
  have hlt : w.heap.size < W1.heap.size := by omega
  have hS3 := hS1.of_below hB13
  have f3 : W3.frozen? ⟨w.heap.size, 0, none⟩ = false := by rw [hB13.frozen (by exact hlt)]; exact f1
  have hR2 : Row W2 W1.heap.size 31 16 (vf f) := by rw [← hW2]; exact Row.new W1 _ 16 (vf f)
  have hR3 : Row W3 W2.heap.size 33 54 (rcF rc0) := by rw [← hW3]; exact Row.new W2 _ 54 _
  have hk4 : Kp w.heap.size W3 W4 := by rw [← hW4]; exact (Kp.refl _ _).setCell 0 _
  have hR2' : Row W4 W1.heap.size 31 16 (vf f) := by
    have := hR2.of_below hB3
    unfold Row at this ⊢
    rw [hk4.block _ (by have := hB3.size; omega) (by omega)]; exact this
  have hR3' : Row W4 W2.heap.size 33 54 (rcF rc0) := by
    unfold Row at hR3 ⊢
    rw [hk4.block _ (by have := (Array.getElem?_eq_some_iff.1 hR3).1; exact this) (by omega)]; exact hR3
  have hS4 : StAt W4 w.heap.size 0 (n : Int) t c := by
    refine ⟨by rw [← hW4]; exact World.cell?_setCell_same _ _ _ hS3.1, ?_, ?_⟩
    · rw [← hW4]
      refine Eq.trans ?_ hS3.2.1
      apply World.cell?_setCell_other
      intro h
      injection h with _ h _
      omega
    · rw [← hW4]
      refine Eq.trans ?_ hS3.2.2
      apply World.cell?_setCell_other
      intro h
      injection h with _ h _
      omega
  have hB4 : Below w.heap.size w W4 := (hB1.trans (hB13.mono hB1.size)).trans (hk4.below (Nat.le_refl _) (by have := hB13.size; omega))
  have z3 : W3.heap.size = w.heap.size + 3 := by rw [← hW3]; simp [z2]
  have z4 : W4.heap.size = w.heap.size + 3 := by rw [← hW4]; simp [z3]
  have c3 := hS3.1
  have HL1 := Lib.hid (fun (u : World) (hu : Below W4.heap.size W4 u) => (⟨ld_stamp (hS4.of_below hu), loadVT vtV (VecAt.of_row (hR2'.of_below hu) (Nat.le_refl _))⟩ : _ ∧ _))
  have HS := Lib.hid (fun (u : World) (hu : Below W4.heap.size W4 u) => (show _ ∧ _ ∧ _ from ⟨ld_stamp (hS4.of_below hu), loadVT vtV (VecAt.of_row (hR2'.of_below hu) (Nat.le_refl _)), hB4.trans (hu.mono hB4.size)⟩))
  have HR := Lib.hid (fun (u : World) (hu : Below W4.heap.size W4 u) (r : Rc) => (show ∃ u', (stT 33 (.pointer (some ⟨W2.heap.size, 0, none⟩)) (rcV r)).run Tryd.prog u = .ok .skip u' ∧ Row u' W2.heap.size 33 54 (rcF r) ∧ Below w.heap.size w u' ∧ (ldT 30 (.pointer (some ⟨w.heap.size, 0, none⟩))).run Tryd.prog u' = .ok (.value (stV (n : Int) t c)) u' ∧ (ldT 31 (.pointer (some ⟨W1.heap.size, 0, none⟩))).run Tryd.prog u' = .ok (.value (vcV f)) u' from by
    obtain ⟨u', h1, h2, h3⟩ := storeRT rtP (hR3'.of_below hu) r
    have hsz : W4.heap.size ≤ u.heap.size := hu.size
    refine ⟨u', h1, h2, (hB4.trans (hu.mono hB4.size)).trans (h3.below (by omega) (by omega)), ld_stamp ?_, loadVT vtV (VecAt.of_row (T := 31) ?_ (Nat.le_refl _))⟩
    · have := hS4.of_below hu
      have hb : u'.heap[w.heap.size]? = u.heap[w.heap.size]? := h3.block _ (by omega) (by omega)
      exact ⟨by rw [World.cell?_of_block (w := u) hb]; exact this.1, by rw [World.cell?_of_block (w := u) hb]; exact this.2.1, by rw [World.cell?_of_block (w := u) hb]; exact this.2.2⟩
    · have := hR2'.of_below hu
      unfold Row at this ⊢
      rw [h3.block _ (by omega) (by omega)]; exact this))
  have HBK := Lib.hid (fun (u u' : World) (r : Rc) (hu : Below W4.heap.size W4 u) (hs : (stT 33 (.pointer (some ⟨W2.heap.size, 0, none⟩)) (rcV r)).run Tryd.prog u = .ok .skip u') (g : Nat) (h3 : W4.heap.size ≤ g) (h2 : g < u.heap.size) => (show u'.heap[g]? = u.heap[g]? from by
    obtain ⟨u2, k1, k2, k3⟩ := storeRT rtP (hR3'.of_below hu) r
    rw [hs] at k1
    injection k1 with _ k1
    rw [k1]
    exact k3.block g h2 (by omega)))
  have HSM := Lib.hid (fun (b : Nat) (u : World) (hu : Below W4.heap.size W4 u) (hc4 : u.cell? ⟨b, 0, none⟩ = some (.slice q n cap)) => sum1_any l b 0 q n cap u hl hc4 (hsl.of_below (hB4.trans (hu.mono hB4.size))) (hT.on (hB4.trans (hu.mono hB4.size))) (by omega))
  have HDG := Lib.hid (fun (u : World) (hu : Below W4.heap.size W4 u) => (digests_any l q n cap u hl (hsl.of_below (hB4.trans (hu.mono hB4.size))) hc hn (hT.on (hB4.trans (hu.mono hB4.size)))).mono fun (e : Ending) (w' : World) ⟨v, h1, h2, h3⟩ => (⟨v, h1, by rw [← digs_flat l n hl]; exact h2, h3⟩ : ∃ v, e = Ending.returned v ∧ w'.ownsRow u.heap.size 23 32 v (nblk n) ((digs l).flatMap digC) ∧ Below u.heap.size u w'))
  obtain ⟨nb, hnb⟩ : ∃ nb, nblk n = nb := ⟨_, rfl⟩
  have HNB := Lib.hid (show nb = (digs l).length from by rw [digs_len, hl, hnb])
  rw [hnb] at HDG
  have HLL := Lib.hid hl
  have HB := Lib.hid hB4
  clear hS1 f1 hB1 hB2 hB3 z1 z2 z3 z4 hB13 hlt hS3 hR2 hR3 hk4 hR2' hR3' hS4 hB4 hnb hl hsl hT
  obtain ⟨X, hX⟩ : ∃ X, rfE p (n : Int) t c f = X := ⟨_, rfl⟩
  rw [hX] at HF ⊢
  clear hX
  obtain ⟨l1, l2⟩ := HL1.out W4 (Below.refl _ _)
  go_enter Tryd.func6, Tryd.ntmps6
  go_wp2_with fail
  clear hW1 hW2 hW3 hW4 f3 c3 l1 l2
  refine (HF.out _).mono ?_
  rintro e u ⟨rfl, hB⟩
  by_cases hx : X = 0
  · subst hx
    go_wp2
    refine wp_region_noPanic ?_
    refine wp_region_held_drew (S := (fun u : World => (ldT 30 (.pointer (some ⟨w.heap.size, 0, none⟩))).run Tryd.prog u = .ok (.value (stV (n : Int) t c)) u ∧ (ldT 31 (.pointer (some ⟨W1.heap.size, 0, none⟩))).run Tryd.prog u = .ok (.value (vcV f)) u ∧ Below w.heap.size w u)) (by kernel_rfl) (HS.out _ (hB.drew)) (fun hHeld => ?_)
    have HX := Lib.hid (show Below W4.heap.size W4 u.drew from hB.drew)
    generalize u.drew = x at hHeld HX ⊢
    refine wpAnyH_take (i := 0) (v := ?_) (by simp only [List.getElem?_toArray, List.getElem?_cons_succ, List.getElem?_cons_zero]; exact rfl) (by kernel_rfl) (by kernel_rfl) (by kernel_rfl) (fun _ _ _ h => h) (Or.inl ⟨by rfl, ?_⟩) (by assumption) ?_
    rotate_left 1
    · (intro w hSw; (try dsimp only at hSw); go_simp; try with_reducible rfl)
    try simp only [Act.put, List.setIfInBounds_toArray, List.set_cons_zero, List.set_cons_succ]
    refine wpAnyH_take (i := 1) (v := ?_) (by simp only [List.getElem?_toArray, List.getElem?_cons_succ, List.getElem?_cons_zero]; exact rfl) (by kernel_rfl) (by kernel_rfl) (by kernel_rfl) (fun _ _ _ h => h) (Or.inl ⟨by rfl, ?_⟩) (by assumption) ?_
    rotate_left 1
    · (intro w hSw; (try dsimp only at hSw); go_simp; try with_reducible rfl)
    try simp only [Act.put, List.setIfInBounds_toArray, List.set_cons_zero, List.set_cons_succ]
    refine wpAnyH_take (i := 2) (v := ?_) (by simp only [List.getElem?_toArray, List.getElem?_cons_succ, List.getElem?_cons_zero]; exact rfl) (by kernel_rfl) (by kernel_rfl) (by kernel_rfl) (fun _ _ _ h => h) (Or.inl ⟨by rfl, ?_⟩) (by assumption) ?_
    rotate_left 1
    · (intro w hSw; (try dsimp only at hSw); go_simp; try with_reducible rfl)
    try simp only [Act.put, List.setIfInBounds_toArray, List.set_cons_zero, List.set_cons_succ]
    refine wpAnyH_take (i := 3) (v := ?_) (by simp only [List.getElem?_toArray, List.getElem?_cons_succ, List.getElem?_cons_zero]; exact rfl) (by kernel_rfl) (by kernel_rfl) (by kernel_rfl) (fun _ _ _ h => h) (Or.inl ⟨by rfl, ?_⟩) (by assumption) ?_
    rotate_left 1
    · (intro w hSw; (try dsimp only at hSw); go_simp; try with_reducible rfl)
    try simp only [Act.put, List.setIfInBounds_toArray, List.set_cons_zero, List.set_cons_succ]
    refine wpAnyH_take (i := 6) (v := ?_) (by simp only [List.getElem?_toArray, List.getElem?_cons_succ, List.getElem?_cons_zero]; exact rfl) (by kernel_rfl) (by kernel_rfl) (by kernel_rfl) (fun _ _ _ h => h) (Or.inl ⟨by rfl, ?_⟩) (by assumption) ?_
    rotate_left 1
    · (intro w hSw; (try dsimp only at hSw); go_simp; try with_reducible rfl)
    try simp only [Act.put, List.setIfInBounds_toArray, List.set_cons_zero, List.set_cons_succ]
    refine wpAnyH_ready (rs := [4]) (by kernel_rfl) (by simp) ?_
    refine (AllReadyH.cons (by simp only [List.getElem?_toArray, List.getElem?_cons_succ, List.getElem?_cons_zero]; exact rfl) (fun K hK => ?_) AllReadyH.nil)
    go_simp
    obtain ⟨x4, hy⟩ : ∃ y, (x.alloc (.cells #[.slice q n cap] 27)) = y := ⟨_, rfl⟩
    have hBa : Below x.heap.size x x4 := by rw [← hy]; exact below_newD _ _
    have hC := (show x4.cell? ⟨x.heap.size, 0, none⟩ = some (.slice q n cap) from by rw [← hy]; exact World.cell?_alloc_new _ _ _ _)
    obtain ⟨b4, hb4⟩ : ∃ b4, x.heap.size = b4 := ⟨_, rfl⟩
    rw [hy, hb4]
    rw [hb4] at hC
    have HC := Lib.hid hC
    have HX := Lib.hid (HX.out.trans (hBa.mono HX.out.size))
    clear hy hBa hC hb4
    refine hK.out _ _ (HS.out _ HX.out) (fun hHeld => ?_)
    clear hK K
    try simp only [Act.put, List.setIfInBounds_toArray, List.set_cons_zero, List.set_cons_succ]
    refine wpAnyH_ready (rs := [5]) (by kernel_rfl) (by simp) ?_
    refine (AllReadyH.cons (by simp only [List.getElem?_toArray, List.getElem?_cons_succ, List.getElem?_cons_zero]; exact rfl) (fun K hK => ?_) AllReadyH.nil)
    go_simp
    refine (HSM.out b4 x4 HX.out HC.out).mono ?_
    rintro e x45 ⟨rfl, hb5⟩
    go_wp2_with fail
    have HX := Lib.hid (HX.out.trans (hb5.mono HX.out.size))
    have HC := Lib.hid (show x45.cell? ⟨b4, 0, none⟩ = some (.slice q n cap) from by rw [hb5.cell (by exact World.block_lt_of_cell? x4 _ HC.out)]; exact HC.out)
    clear hb5
    refine hK.out _ _ (HS.out _ HX.out) (fun hHeld => ?_)
    clear hK K
    try simp only [Act.put, List.setIfInBounds_toArray, List.set_cons_zero, List.set_cons_succ]
    refine wpAnyH_ready (rs := [7]) (by kernel_rfl) (by simp) ?_
    refine (AllReadyH.cons (by simp only [List.getElem?_toArray, List.getElem?_cons_succ, List.getElem?_cons_zero]; exact rfl) (fun K hK => ?_) AllReadyH.nil)
    go_simp
    refine (HDG.out x45 HX.out).mono ?_
    rintro e x457 ⟨v7, rfl, hO, hb7⟩
    have hO := own_lower hO (b2 := W4.heap.size) HX.out.size
    have hO2 := hO
    obtain ⟨q7, c7, rfl, -, -⟩ := dg_own hO2 (HNB.out) (digs_each l)
    rw [← HNB.out]
    have HO := Lib.hid hO
    have HX := Lib.hid (HX.out.trans (hb7.mono HX.out.size))
    have HC := Lib.hid (show x457.cell? ⟨b4, 0, none⟩ = some (.slice q n cap) from by rw [hb7.cell (by exact World.block_lt_of_cell? x45 _ HC.out)]; exact HC.out)
    clear hO hO2 hb7
    obtain ⟨RV, hRV⟩ : ∃ RV : Rc, ⟨p, (n : Int), t, c, f, false, digL l, q7, nb, c7⟩ = RV := ⟨_, rfl⟩
    have hbd := fun u => bdP5 p (n : Int) t c f false (digL l) q7 nb c7 u
    rw [hRV] at hbd
    have HRV := Lib.hid hRV
    clear hRV
    go_wp2_with fail
    refine hK.out _ _ (HS.out _ HX.out) (fun hHeld => ?_)
    clear hK K
    try simp only [Act.put, List.setIfInBounds_toArray, List.set_cons_zero, List.set_cons_succ]
    refine wpAnyH_take (i := 8) (v := ?_) (by simp only [List.getElem?_toArray, List.getElem?_cons_succ, List.getElem?_cons_zero]; exact rfl) (by kernel_rfl) (by kernel_rfl) (by kernel_rfl) (fun _ _ _ h => h) (Or.inl ⟨by rfl, ?_⟩) (by assumption) ?_
    rotate_left 1
    · (intro w hSw; (try dsimp only at hSw); go_simp; try with_reducible rfl)
    try simp only [Act.put, List.setIfInBounds_toArray, List.set_cons_zero, List.set_cons_succ]
    refine wpAnyH_ready (rs := [9]) (by kernel_rfl) (by simp) ?_
    refine (AllReadyH.cons (by simp only [List.getElem?_toArray, List.getElem?_cons_succ, List.getElem?_cons_zero]; exact rfl) (fun K hK => ?_) AllReadyH.nil)
    obtain ⟨u', hs, hRow, hBel, hl1, hl2⟩ := HR.out x457 HX.out RV
    have HRow := Lib.hid hRow
    have HBel := Lib.hid hBel
    have HO2 := Lib.hid (own_keep HO.out (fun g hg => HBK.out x457 u' RV HX.out hs g (HO.out.lt g hg).1 (HO.out.lt g hg).2))
    clear hRow hBel
    go_simp
    refine hK.out _ _ ⟨hl1, hl2, HBel.out⟩ (fun hHeld => ?_)
    clear hK K
    try simp only [Act.put, List.setIfInBounds_toArray, List.set_cons_zero, List.set_cons_succ]
    refine wpAnyH_take (i := 10) (v := ?_) (by simp only [List.getElem?_toArray, List.getElem?_cons_succ, List.getElem?_cons_zero]; exact rfl) (by kernel_rfl) (by kernel_rfl) (by kernel_rfl) (fun _ _ _ h => h) (Or.inl ⟨by rfl, ?_⟩) (by assumption) ?_
    rotate_left 1
    · (intro w hSw; (try dsimp only at hSw); go_simp; try with_reducible rfl)
    try simp only [Act.put, List.setIfInBounds_toArray, List.set_cons_zero, List.set_cons_succ]
    refine wpAnyH_done (by kernel_rfl) ?_ _
    refine NoPanic.normal ?_
    go_wp2
    refine bodyPost_ret (resR2 rtP rfl _ u' W2.heap.size 33 RV (.int .i64 0) rfl rfl HRow.out) rfl ?_
    obtain ⟨q8, c8, e8, -, hdg⟩ := dg_own HO2.out HNB.out (digs_each l)
    injection e8 with e8 e9 e10
    subst e8 e10
    have hNB := HNB.out
    refine ⟨RV, rfl, HBel.out, ?_⟩
    rw [← HRV.out]
    unfold OfPost
    rw [if_pos rfl]
    exact ⟨rfl, by rw [HLL.out], rfl, rfl, rfl, rfl, rfl, digs l, rfl, hdg _ rfl (by dsimp only; exact hNB) rfl (digL_len _)⟩
  · obtain ⟨u', hs, hRow, hBel, -, -⟩ := HR.out u hB rc0
    have HRow := Lib.hid hRow
    have HBel := Lib.hid hBel
    have dx : decide (X = 0) = false := decide_eq_false hx
    have HXX := Lib.hid hx
    clear hRow hBel hB
    go_wp2
    refine bodyPost_ret (resR2 rtP rfl _ u' W2.heap.size 33 rc0 (.int .i64 X) rfl rfl HRow.out) rfl ?_
    exact ⟨rc0, rfl, HBel.out, by unfold OfPost; rw [if_neg HXX.out]⟩
end Go.Proofs.YtfemgkamgokjcaaDoor
/- A record and its own bytes: has, Bad, Fits. -/
set_option maxRecDepth 100000
namespace Go.Proofs.YtfemgkamgokjcaaDoor
open Go Go.RowKit Go.Shelf

attribute [-go_sem] Sha.exec_store
theorem exec_loadP (r : Operand → Value) (dst : Option Tmp) (p : Operand) (ty : TypeId) (pos : String) (after : Array Edge) (guard : Option (Nat × Bool)) :
    execOp r ⟨dst, .load 33 p, ty, pos, after, guard⟩ = ldT 33 (r p) := rfl
attribute [local go_sem ↓] exec_boxA exec_loadA exec_indexA exec_allocA exec_storeA exec_buildA exec_eqlA exec_neqA exec_boxV exec_loadV exec_indexV exec_allocV exec_storeV exec_buildV exec_eqlV exec_neqV
attribute [local go_sem] boxA indexA storeNewA buildA eqlA neqA boxV indexV storeNewV buildV eqlV neqV
attribute [local go_sem ↓] exec_loadS exec_boxS exec_boxP exec_boxM exec_loadP exec_load32 exec_build32 exec_eqlD exec_neqD exec_bs
attribute [local go_sem] box_stamp boxP boxM bd32 eqlD neqD deq_self bsSl

set_option maxRecDepth 100000 in
set_option maxHeartbeats 4000000 in
/-- A block that is as the record says. -/
theorem has_yes (r : Rc) (ds : List By) (blk : By) (i : Nat) (q : Option Addr) (m c : Nat) (w : World) (h : DgAt w r ds) (hi : i < ds.length) (hd : ds.getD i [] = digL blk) (hm : blk.length = m) (hs : Sl w q blk) (hsz : (256 * i + m : Nat) ≤ r.size) (hi2 : i < 100000) (hm2 : m ≤ 256) (hT : Tb w) :
    Calls Tryd.prog 29 #[rcV r, .int .i64 (i : Int), .slice q m c] w fun e w' => e = .returned (.bool true) ∧ Below w.heap.size w w' := by
  obtain ⟨W, hW⟩ : ∃ W, w.alloc (.cells (tab 54 (rcF r)) 33) = W := ⟨_, rfl⟩
  have hB1 : Below w.heap.size w W := by rw [← hW]; exact below_newD _ _
  have hR : Row W w.heap.size 33 54 (rcF r) := by rw [← hW]; exact Row.new w _ 54 _
  have HB := Lib.hid hB1
  have H := Lib.hid (h.of_below hB1)
  obtain ⟨V, hV⟩ : ∃ V, rcV r = V := ⟨_, rfl⟩
  have x1 : (bxT 33 V).run Tryd.prog w = .ok (.value (.pointer (some ⟨w.heap.size, 0, none⟩))) W := by rw [← hV, ← hW]; exact boxP w r
  rw [hV]
  obtain ⟨c1, o1, e1, -⟩ := h.at i hi
  obtain ⟨dg, hdg⟩ : ∃ dg, digL blk = dg := ⟨_, rfl⟩
  have HS := Lib.hid (fun (u : World) (hu : Below W.heap.size W u) => (show _ ∧ _ ∧ _ ∧ _ from ⟨rc_blocks (hR.of_below hu), rc_size (hR.of_below hu), (H.out.of_below hu).ldq e1 i hi, hu⟩))
  have HSM := Lib.hid (fun (b : Nat) (u : World) (hu : Below W.heap.size W u) (hc4 : u.cell? ⟨b, 0, none⟩ = some (.slice q m c)) => sum1_any blk b 0 q m c u hm hc4 (hs.of_below (hB1.trans (hu.mono hB1.size))) (hT.on (hB1.trans (hu.mono hB1.size))) (by omega))
  rw [hdg] at HSM
  rw [hd, hdg] at HS
  rw [e1] at HS
  have hn := h.n
  have hle := h.le
  obtain ⟨p, s, t, ch, f, d, wh, q1, n, cap⟩ := r
  dsimp only at *
  have hin : i < n := by omega
  have z1 : (i : Int) < (n : Int) := by omega
  have z2 : decide ((i : Int) < (n : Int)) = true := decide_eq_true z1
  have w2 : IntKind.i64.wrap ((i : Int) * 256) = (i : Int) * 256 := by rw [IntKind.wrap_i64]; omega
  have w3 : IntKind.i64.wrap ((i : Int) * 256 + (m : Int)) = (i : Int) * 256 + (m : Int) := by rw [IntKind.wrap_i64]; omega
  have z3 : (i : Int) * 256 + (m : Int) ≤ s := by omega
  have z4 : decide ((i : Int) * 256 + (m : Int) ≤ s) = true := decide_eq_true z3
  clear hW hV hB1 hR h hn hd hm hs hsz hT e1 hdg hi
  go_enter Tryd.func29, Tryd.ntmps29
  go_wp2
  refine wp_region_noPanic ?_
  refine wp_region_held_drew (S := (fun u : World => u.cell? ⟨w.heap.size, 53, none⟩ = some (.slice (some ⟨c1, o1, none⟩) n cap) ∧ u.cell? ⟨w.heap.size, 1, none⟩ = some (.int .i64 s) ∧ (ldT 23 (.pointer (some ⟨c1, o1 + i * 32, none⟩))).run Tryd.prog u = .ok (.value (digV dg)) u ∧ Below W.heap.size W u)) (by kernel_rfl) (HS.out W.drew (Below.refl _ _).drew) (fun hHeld => ?_)
  generalize W.drew = x at hHeld ⊢
  refine wpAnyH_take (i := 0) (v := ?_) (by simp only [List.getElem?_toArray, List.getElem?_cons_succ, List.getElem?_cons_zero]; exact rfl) (by kernel_rfl) (by kernel_rfl) (by kernel_rfl) (fun _ _ _ h => h) (Or.inl ⟨by rfl, ?_⟩) (by assumption) ?_
  rotate_left 1
  · (intro w hSw; (try dsimp only at hSw); go_simp; try with_reducible rfl)
  try simp only [Act.put, List.setIfInBounds_toArray, List.set_cons_zero, List.set_cons_succ]
  refine wpAnyH_take (i := 1) (v := ?_) (by simp only [List.getElem?_toArray, List.getElem?_cons_succ, List.getElem?_cons_zero]; exact rfl) (by kernel_rfl) (by kernel_rfl) (by kernel_rfl) (fun _ _ _ h => h) (Or.inl ⟨by rfl, ?_⟩) (by assumption) ?_
  rotate_left 1
  · (intro w hSw; (try dsimp only at hSw); go_simp; try with_reducible rfl)
  try simp only [Act.put, List.setIfInBounds_toArray, List.set_cons_zero, List.set_cons_succ]
  refine wpAnyH_take (i := 2) (v := ?_) (by simp only [List.getElem?_toArray, List.getElem?_cons_succ, List.getElem?_cons_zero]; exact rfl) (by kernel_rfl) (by kernel_rfl) (by kernel_rfl) (fun _ _ _ h => h) (Or.inl ⟨by rfl, ?_⟩) (by assumption) ?_
  rotate_left 1
  · (intro w hSw; (try dsimp only at hSw); go_simp; try with_reducible rfl)
  try simp only [Act.put, List.setIfInBounds_toArray, List.set_cons_zero, List.set_cons_succ]
  refine wpAnyH_take (i := 3) (v := ?_) (by simp only [List.getElem?_toArray, List.getElem?_cons_succ, List.getElem?_cons_zero]; exact rfl) (by kernel_rfl) (by kernel_rfl) (by kernel_rfl) (fun _ _ _ h => h) (Or.inl ⟨by rfl, ?_⟩) (by assumption) ?_
  rotate_left 1
  · (intro w hSw; (try dsimp only at hSw); go_simp; try with_reducible rfl)
  try simp only [Act.put, List.setIfInBounds_toArray, List.set_cons_zero, List.set_cons_succ]
  refine wpAnyH_take (i := 4) (v := ?_) (by simp only [List.getElem?_toArray, List.getElem?_cons_succ, List.getElem?_cons_zero]; exact rfl) (by kernel_rfl) (by kernel_rfl) (by kernel_rfl) (fun _ _ _ h => h) (Or.inl ⟨by rfl, ?_⟩) (by assumption) ?_
  rotate_left 1
  · (intro w hSw; (try dsimp only at hSw); go_simp; try with_reducible rfl)
  try simp only [Act.put, List.setIfInBounds_toArray, List.set_cons_zero, List.set_cons_succ]
  refine wpAnyH_take (i := 5) (v := ?_) (by simp only [List.getElem?_toArray, List.getElem?_cons_succ, List.getElem?_cons_zero]; exact rfl) (by kernel_rfl) (by kernel_rfl) (by kernel_rfl) (fun _ _ _ h => h) (Or.inl ⟨by rfl, ?_⟩) (by assumption) ?_
  rotate_left 1
  · (intro w hSw; (try dsimp only at hSw); go_simp; try with_reducible rfl)
  try simp only [Act.put, List.setIfInBounds_toArray, List.set_cons_zero, List.set_cons_succ]
  refine wpAnyH_take (i := 6) (v := ?_) (by simp only [List.getElem?_toArray, List.getElem?_cons_succ, List.getElem?_cons_zero]; exact rfl) (by kernel_rfl) (by kernel_rfl) (by kernel_rfl) (fun _ _ _ h => h) (Or.inl ⟨by rfl, ?_⟩) (by assumption) ?_
  rotate_left 1
  · (intro w hSw; (try dsimp only at hSw); go_simp; try with_reducible rfl)
  try simp only [Act.put, List.setIfInBounds_toArray, List.set_cons_zero, List.set_cons_succ]
  refine wpAnyH_take (i := 7) (v := ?_) (by simp only [List.getElem?_toArray, List.getElem?_cons_succ, List.getElem?_cons_zero]; exact rfl) (by kernel_rfl) (by kernel_rfl) (by kernel_rfl) (fun _ _ _ h => h) (Or.inl ⟨by rfl, ?_⟩) (by assumption) ?_
  rotate_left 1
  · (intro w hSw; (try dsimp only at hSw); go_simp; try with_reducible rfl)
  try simp only [Act.put, List.setIfInBounds_toArray, List.set_cons_zero, List.set_cons_succ]
  refine wpAnyH_take (i := 8) (v := ?_) (by simp only [List.getElem?_toArray, List.getElem?_cons_succ, List.getElem?_cons_zero]; exact rfl) (by kernel_rfl) (by kernel_rfl) (by kernel_rfl) (fun _ _ _ h => h) (Or.inl ⟨by rfl, ?_⟩) (by assumption) ?_
  rotate_left 1
  · (intro w hSw; (try dsimp only at hSw); go_simp; try with_reducible rfl)
  try simp only [Act.put, List.setIfInBounds_toArray, List.set_cons_zero, List.set_cons_succ]
  refine wpAnyH_take (i := 9) (v := ?_) (by simp only [List.getElem?_toArray, List.getElem?_cons_succ, List.getElem?_cons_zero]; exact rfl) (by kernel_rfl) (by kernel_rfl) (by kernel_rfl) (fun _ _ _ h => h) (Or.inl ⟨by rfl, ?_⟩) (by assumption) ?_
  rotate_left 1
  · (intro w hSw; (try dsimp only at hSw); go_simp; try with_reducible rfl)
  try simp only [Act.put, List.setIfInBounds_toArray, List.set_cons_zero, List.set_cons_succ]
  refine wpAnyH_take (i := 10) (v := ?_) (by simp only [List.getElem?_toArray, List.getElem?_cons_succ, List.getElem?_cons_zero]; exact rfl) (by kernel_rfl) (by kernel_rfl) (by kernel_rfl) (fun _ _ _ h => h) (Or.inl ⟨by rfl, ?_⟩) (by assumption) ?_
  rotate_left 1
  · (intro w hSw; (try dsimp only at hSw); go_simp; try with_reducible rfl)
  try simp only [Act.put, List.setIfInBounds_toArray, List.set_cons_zero, List.set_cons_succ]
  refine wpAnyH_take (i := 11) (v := ?_) (by simp only [List.getElem?_toArray, List.getElem?_cons_succ, List.getElem?_cons_zero]; exact rfl) (by kernel_rfl) (by kernel_rfl) (by kernel_rfl) (fun _ _ _ h => h) (Or.inl ⟨by rfl, ?_⟩) (by assumption) ?_
  rotate_left 1
  · (intro w hSw; (try dsimp only at hSw); go_simp; try with_reducible rfl)
  try simp only [Act.put, List.setIfInBounds_toArray, List.set_cons_zero, List.set_cons_succ]
  refine wpAnyH_take (i := 12) (v := ?_) (by simp only [List.getElem?_toArray, List.getElem?_cons_succ, List.getElem?_cons_zero]; exact rfl) (by kernel_rfl) (by kernel_rfl) (by kernel_rfl) (fun _ _ _ h => h) (Or.inl ⟨by rfl, ?_⟩) (by assumption) ?_
  rotate_left 1
  · (intro w hSw; (try dsimp only at hSw); go_simp; try with_reducible rfl)
  try simp only [Act.put, List.setIfInBounds_toArray, List.set_cons_zero, List.set_cons_succ]
  refine wpAnyH_take (i := 13) (v := ?_) (by simp only [List.getElem?_toArray, List.getElem?_cons_succ, List.getElem?_cons_zero]; exact rfl) (by kernel_rfl) (by kernel_rfl) (by kernel_rfl) (fun _ _ _ h => h) (Or.inl ⟨by rfl, ?_⟩) (by assumption) ?_
  rotate_left 1
  · (intro w hSw; (try dsimp only at hSw); go_simp; try with_reducible rfl)
  try simp only [Act.put, List.setIfInBounds_toArray, List.set_cons_zero, List.set_cons_succ]
  refine wpAnyH_take (i := 14) (v := ?_) (by simp only [List.getElem?_toArray, List.getElem?_cons_succ, List.getElem?_cons_zero]; exact rfl) (by kernel_rfl) (by kernel_rfl) (by kernel_rfl) (fun _ _ _ h => h) (Or.inl ⟨by rfl, ?_⟩) (by assumption) ?_
  rotate_left 1
  · (intro w hSw; (try dsimp only at hSw); go_simp; try with_reducible rfl)
  try simp only [Act.put, List.setIfInBounds_toArray, List.set_cons_zero, List.set_cons_succ]
  refine wpAnyH_take (i := 15) (v := ?_) (by simp only [List.getElem?_toArray, List.getElem?_cons_succ, List.getElem?_cons_zero]; exact rfl) (by kernel_rfl) (by kernel_rfl) (by kernel_rfl) (fun _ _ _ h => h) (Or.inl ⟨by rfl, ?_⟩) (by assumption) ?_
  rotate_left 1
  · (intro w hSw; (try dsimp only at hSw); go_simp; try with_reducible rfl)
  try simp only [Act.put, List.setIfInBounds_toArray, List.set_cons_zero, List.set_cons_succ]
  refine wpAnyH_take (i := 16) (v := ?_) (by simp only [List.getElem?_toArray, List.getElem?_cons_succ, List.getElem?_cons_zero]; exact rfl) (by kernel_rfl) (by kernel_rfl) (by kernel_rfl) (fun _ _ _ h => h) (Or.inl ⟨by rfl, ?_⟩) (by assumption) ?_
  rotate_left 1
  · (intro w hSw; (try dsimp only at hSw); go_simp; try with_reducible rfl)
  try simp only [Act.put, List.setIfInBounds_toArray, List.set_cons_zero, List.set_cons_succ]
  refine wpAnyH_take (i := 17) (v := ?_) (by simp only [List.getElem?_toArray, List.getElem?_cons_succ, List.getElem?_cons_zero]; exact rfl) (by kernel_rfl) (by kernel_rfl) (by kernel_rfl) (fun _ _ _ h => h) (Or.inl ⟨by rfl, ?_⟩) (by assumption) ?_
  rotate_left 1
  · (intro w hSw; (try dsimp only at hSw); go_simp; try with_reducible rfl)
  try simp only [Act.put, List.setIfInBounds_toArray, List.set_cons_zero, List.set_cons_succ]
  refine wpAnyH_take (i := 20) (v := ?_) (by simp only [List.getElem?_toArray, List.getElem?_cons_succ, List.getElem?_cons_zero]; exact rfl) (by kernel_rfl) (by kernel_rfl) (by kernel_rfl) (fun _ _ _ h => h) (Or.inl ⟨by rfl, ?_⟩) (by assumption) ?_
  rotate_left 1
  · (intro w hSw; (try dsimp only at hSw); go_simp; try with_reducible rfl)
  try simp only [Act.put, List.setIfInBounds_toArray, List.set_cons_zero, List.set_cons_succ]
  refine wpAnyH_take (i := 21) (v := ?_) (by simp only [List.getElem?_toArray, List.getElem?_cons_succ, List.getElem?_cons_zero]; exact rfl) (by kernel_rfl) (by kernel_rfl) (by kernel_rfl) (fun _ _ _ h => h) (Or.inl ⟨by rfl, ?_⟩) (by assumption) ?_
  rotate_left 1
  · (intro w hSw; (try dsimp only at hSw); go_simp; try with_reducible rfl)
  try simp only [Act.put, List.setIfInBounds_toArray, List.set_cons_zero, List.set_cons_succ]
  refine wpAnyH_take (i := 22) (v := ?_) (by simp only [List.getElem?_toArray, List.getElem?_cons_succ, List.getElem?_cons_zero]; exact rfl) (by kernel_rfl) (by kernel_rfl) (by kernel_rfl) (fun _ _ _ h => h) (Or.inl ⟨by rfl, ?_⟩) (by assumption) ?_
  rotate_left 1
  · (intro w hSw; (try dsimp only at hSw); go_simp; try with_reducible rfl)
  try simp only [Act.put, List.setIfInBounds_toArray, List.set_cons_zero, List.set_cons_succ]
  refine wpAnyH_take (i := 23) (v := ?_) (by simp only [List.getElem?_toArray, List.getElem?_cons_succ, List.getElem?_cons_zero]; exact rfl) (by kernel_rfl) (by kernel_rfl) (by kernel_rfl) (fun _ _ _ h => h) (Or.inl ⟨by rfl, ?_⟩) (by assumption) ?_
  rotate_left 1
  · (intro w hSw; (try dsimp only at hSw); go_simp; try with_reducible rfl)
  try simp only [Act.put, List.setIfInBounds_toArray, List.set_cons_zero, List.set_cons_succ]
  refine wpAnyH_take (i := 24) (v := ?_) (by simp only [List.getElem?_toArray, List.getElem?_cons_succ, List.getElem?_cons_zero]; exact rfl) (by kernel_rfl) (by kernel_rfl) (by kernel_rfl) (fun _ _ _ h => h) (Or.inl ⟨by rfl, ?_⟩) (by assumption) ?_
  rotate_left 1
  · (intro w hSw; (try dsimp only at hSw); go_simp; try with_reducible rfl)
  try simp only [Act.put, List.setIfInBounds_toArray, List.set_cons_zero, List.set_cons_succ]
  refine wpAnyH_ready (rs := [18]) (by kernel_rfl) (by simp) ?_
  refine (AllReadyH.cons (by simp only [List.getElem?_toArray, List.getElem?_cons_succ, List.getElem?_cons_zero]; exact rfl) (fun K hK => ?_) AllReadyH.nil)
  go_simp
  obtain ⟨y, hy⟩ : ∃ y, (x.alloc (.cells #[.slice q m c] 27)) = y := ⟨_, rfl⟩
  have hBa : Below x.heap.size x y := by rw [← hy]; exact below_newD _ _
  have hC := (show y.cell? ⟨x.heap.size, 0, none⟩ = some (.slice q m c) from by rw [← hy]; exact World.cell?_alloc_new _ _ _ _)
  rw [hy]
  have hXY := hHeld.2.2.2.trans (hBa.mono hHeld.2.2.2.size)
  clear hy hBa
  refine hK.out _ _ (HS.out _ hXY) (fun hHeld => ?_)
  clear hK K
  try simp only [Act.put, List.setIfInBounds_toArray, List.set_cons_zero, List.set_cons_succ]
  refine wpAnyH_ready (rs := [19]) (by kernel_rfl) (by simp) ?_
  refine (AllReadyH.cons (by simp only [List.getElem?_toArray, List.getElem?_cons_succ, List.getElem?_cons_zero]; exact rfl) (fun K hK => ?_) AllReadyH.nil)
  go_simp
  refine (HSM.out x.heap.size y hXY hC).mono ?_
  rintro e z ⟨rfl, hb5⟩
  have hXZ := hXY.trans (hb5.mono hXY.size)
  go_wp2_with fail
  refine hK.out _ _ (HS.out _ hXZ) (fun hHeld => ?_)
  clear hK K
  try simp only [Act.put, List.setIfInBounds_toArray, List.set_cons_zero, List.set_cons_succ]
  refine wpAnyH_take (i := 25) (v := ?_) (by simp only [List.getElem?_toArray, List.getElem?_cons_succ, List.getElem?_cons_zero]; exact rfl) (by kernel_rfl) (by kernel_rfl) (by kernel_rfl) (fun _ _ _ h => h) (Or.inl ⟨by rfl, ?_⟩) (by assumption) ?_
  rotate_left 1
  · (intro w hSw; (try dsimp only at hSw); go_simp; try with_reducible rfl)
  try simp only [Act.put, List.setIfInBounds_toArray, List.set_cons_zero, List.set_cons_succ]
  refine wpAnyH_take (i := 26) (v := ?_) (by simp only [List.getElem?_toArray, List.getElem?_cons_succ, List.getElem?_cons_zero]; exact rfl) (by kernel_rfl) (by kernel_rfl) (by kernel_rfl) (fun _ _ _ h => h) (Or.inl ⟨by rfl, ?_⟩) (by assumption) ?_
  rotate_left 1
  · (intro w hSw; (try dsimp only at hSw); go_simp; try with_reducible rfl)
  try simp only [Act.put, List.setIfInBounds_toArray, List.set_cons_zero, List.set_cons_succ]
  refine wpAnyH_take (i := 27) (v := ?_) (by simp only [List.getElem?_toArray, List.getElem?_cons_succ, List.getElem?_cons_zero]; exact rfl) (by kernel_rfl) (by kernel_rfl) (by kernel_rfl) (fun _ _ _ h => h) (Or.inl ⟨by rfl, ?_⟩) (by assumption) ?_
  rotate_left 1
  · (intro w hSw; (try dsimp only at hSw); go_simp; try with_reducible rfl)
  try simp only [Act.put, List.setIfInBounds_toArray, List.set_cons_zero, List.set_cons_succ]
  refine wpAnyH_done (by kernel_rfl) ?_ _
  refine NoPanic.normal ?_
  go_wp2
  go_ret
  exact ⟨rfl, HB.out.trans (hHeld.2.2.2.mono HB.out.size)⟩

/-- What the walk of Bad carries. -/
def InvBd (w : World) (N : Nat) (r : Rc) (A : World) : Prop := A.cell? ⟨N + 1, 0, none⟩ = some (.slice none 0 0) ∧ Row A N 33 54 (rcF r) ∧ Below w.heap.size w A ∧ N + 3 ≤ A.heap.size
theorem InvBd.of_below {w : World} {N : Nat} {r : Rc} {A A' : World} (h : InvBd w N r A) (hB : Below A.heap.size A A') : InvBd w N r A' :=
  ⟨by rw [hB.cell (by exact World.block_lt_of_cell? A _ h.1)]; exact h.1, h.2.1.of_below hB, h.2.2.1.trans (hB.mono h.2.2.1.size), Nat.le_trans h.2.2.2 hB.size⟩
theorem InvBd.put {w : World} {N k : Nat} {r : Rc} {A : World} {o : Obj} (h : InvBd w N r A) (hw : w.heap.size = N) (hk : N + 3 ≤ k) (hlt : k < A.heap.size) : InvBd w N r (A.putObj k o) := by
  have hB := below_putP (N := N + 3) (A := A) o hk hlt
  refine ⟨by rw [hB.cell (by show N + 1 < _; omega)]; exact h.1, ?_, h.2.2.1.trans (hB.mono (by omega)), Nat.le_trans h.2.2.2 hB.size⟩
  have := h.2.1
  unfold Row at this ⊢
  rw [hB.block N (by omega)]; exact this
theorem InvBd.bears (w : World) (N : Nat) (r : Rc) (hw : w.heap.size = N) : BearsP (N + 3) (fun (_ : List Nat) A => InvBd w N r A) :=
  ⟨fun pre A o h => h.of_below (below_newD _ _), fun pre A o hlt h => h.put hw (by omega) hlt, fun pre A k h => h.of_below ((show Dr A (A.drewN k) from ⟨k, rfl⟩).below _)⟩
section
attribute [local go_sem] Oper.semAt_some
theorem loadP_at {w : World} {b : Nat} {r : Rc} (h : Row w b 33 54 (rcF r)) : (ldT 33 (.pointer (some ⟨b, 0, none⟩))).run Tryd.prog w = .ok (.value (rcV r)) w := loadRT rtP h
set_option maxRecDepth 100000 in
set_option maxHeartbeats 4000000 in
/-- The record's own bytes: no block is bad. -/
theorem bad_none (r : Rc) (l : By) (q : Option Addr) (n cap : Nat) (w : World) (h : DgAt w r (digs l)) (hsz : r.size = (n : Int)) (hl : l.length = n) (hs : Sl w q l) (hc : n ≤ cap) (hn : n < 1000000) (hT : Tb w) :
    Calls Tryd.prog 13 #[rcV r, .slice q n cap] w fun e w' => e = .returned (.slice none 0 0) ∧ Below w.heap.size w w' := by
  refine (callsIn_wide (n := 7)).1 ?_
  refine callsIn_of_wp_marks Tryd.func13 rfl trivial ?_ rfl
  simp only [Tryd.ntmps13, List.size_toArray, List.length_cons, List.length_nil, Nat.reduceAdd, Nat.reduceSub, Array.replicate_succ, Array.replicate_zero, List.push_toArray, List.append_toArray, List.nil_append, List.cons_append]
  obtain ⟨N, hN⟩ : ∃ N, w.heap.size = N := ⟨_, rfl⟩
  obtain ⟨W0, hW0⟩ : ∃ W, w.alloc (.cells (tab 54 (rcF r)) 33) = W := ⟨_, rfl⟩
  obtain ⟨V, hV⟩ : ∃ V, rcV r = V := ⟨_, rfl⟩
  have x1 : (bxT 33 V).run Tryd.prog w = .ok (.value (.pointer (some ⟨w.heap.size, 0, none⟩))) W0 := by rw [← hV, ← hW0]; exact boxP w r
  have hB0 : Below w.heap.size w W0 := by rw [← hW0]; exact below_newD _ _
  have hR0 : Row W0 N 33 54 (rcF r) := by rw [← hN, ← hW0]; exact Row.new w _ 54 _
  have s0 : W0.heap.size = N + 1 := by rw [← hW0]; simp [hN]
  obtain ⟨W1, hW1⟩ : ∃ W1, W0.alloc (.cells #[.slice none 0 0] 43) = W1 := ⟨_, rfl⟩
  obtain ⟨W2, hW2⟩ : ∃ W2, W1.alloc (.cells #[.slice q n cap] 27) = W2 := ⟨_, rfl⟩
  have s1 : W1.heap.size = N + 2 := by rw [← hW1]; simp [s0]
  have s2 : W2.heap.size = N + 3 := by rw [← hW2]; simp [s1]
  have hB1 : Below W0.heap.size W0 W1 := by rw [← hW1]; exact below_newD _ _
  have hB2 : Below W1.heap.size W1 W2 := by rw [← hW2]; exact below_newD _ _
  have hB12 : Below W0.heap.size W0 W2 := hB1.trans (hB2.mono hB1.size)
  have c1 : W2.cell? ⟨N + 2, 0, none⟩ = some (.slice q n cap) := by rw [← hW2, ← s1]; exact World.cell?_alloc_new _ _ _ _
  have c0 : W2.cell? ⟨N + 1, 0, none⟩ = some (.slice none 0 0) := by rw [hB2.cell (by show N + 1 < _; omega), ← hW1, ← s0]; exact World.cell?_alloc_new _ _ _ _
  have inv0 : InvBd w N r W2 := ⟨c0, hR0.of_below hB12, hB0.trans (hB12.mono hB0.size), by omega⟩
  have HSEQ := Lib.hid (blocks_seq 6 (by decide) (N + 2) q n cap W2 c1 hn hc)
  have HHAS := Lib.hid (fun (i : Nat) (hi : i < nblk n) (u : World) (hu : Below w.heap.size w u) => has_yes r (digs l) (blkL l i) i (q.map (·.add (256 * i))) (blen n i) (blen n i) u (h.of_below hu) (by rw [digs_len, hl]; exact hi) (by unfold digs; rw [hl]; simp [List.getD_eq_getElem?_getD, hi]) (by rw [blkL_len, hl]) (blkL_sl (hs.of_below hu) i) (by rw [hsz]; have := nblk_lt hi; unfold blen; omega) (by unfold nblk at hi; omega) (blen_le n i) (hT.on hu))
  rw [hV] at HHAS
  have hrn : r.n = nblk n := by rw [h.n, digs_len, hl]
  have HRN := Lib.hid hrn
  have HV := Lib.hid hV
  have HN := Lib.hid hN
  have hnb : nblk n < 100000 := by unfold nblk; omega
  have HCT := Lib.hid (fun u => count_any n u (by omega))
  clear hrn h hsz hl hs hT hB0 hR0 hB1 hB2 hB12 c0 c1
  rw [hV]
  rw [hN] at x1
  gi_wp2_with (refine ⟨trivial, ?_⟩; gi_at_call 28; refine (callsIn_wide.2 (blocks_any q n cap _)).mono ?_; rintro e w' ⟨rfl, rfl⟩)
  try rw [hW1]
  try rw [hW2]
  try rw [s0]
  try rw [s1]
  clear hW0 hW1 hW2 hV x1
  refine range_pure (m := 7) (by decide) (gf := 52) (lb := #[.pointer (some ⟨N + 2, 0, none⟩)]) (by rfl) (enters_of Tryd.func52 (by kernel_rfl) rfl)
    (encs := fun i : Nat => #[.int .i64 (i : Int), blkS q n i]) (fun _ => rfl) (b := N + 2) (by omega) HSEQ.out
    (fun _ A => InvBd w N r A) (fun _ _ => False) (by have := InvBd.bears w N r hN; rw [← s2] at this; exact this) (fun _ _ _ _ h => h) inv0
    (fun i => { tmps := #[V, .slice q n cap, .pointer (some ⟨N, 0, none⟩), undef, .slice none 0 0, .pointer (some ⟨N + 1, 0, none⟩), .int .i64 (i : Int), blkS q n i, undef, .slice q n cap, .func (.func 52) #[] #[.pointer (some ⟨N + 2, 0, none⟩)], .int .i64 (i : Int), blkS q n i, undef, undef, undef, undef, undef, undef, undef, undef, undef, undef, undef, undef, undef, undef, undef, undef, undef, undef, undef, undef, undef, undef, undef, undef], defers := [] }) ?assign ?body ?done ?stop
  case assign =>
    intro L x A K hK
    gi_wp2
    exact hK
  case body =>
    rintro L pre i A hpx hNA hinv
    have hik := (pre_range hpx).1
    have HI := Lib.hid hinv
    have l1 := loadP_at hinv.2.1
    rw [HV.out] at l1
    have HX := Lib.hid (HHAS.out i hik A hinv.2.2.1)
    have hbS : blkS q n i = .slice (q.map (·.add (256 * i))) (blen n i) (blen n i) := rfl
    clear hpx hinv hik
    gi_wp2_with (first | (refine ⟨trivial, ?_⟩; gi_at_call 29; refine (CallsIn.inRound L (callsIn_wide.2 HX.out)).mono ?_; rintro e A2 ⟨rfl, hB⟩))
    exact ⟨others_belowP hB, hB.block _ (by have := HI.out.2.2.2; omega), HI.out.of_below hB⟩
  case done =>
    rintro D A hD hinv hK
    have HI := Lib.hid hinv
    rw [s2] at hD
    subst hD
    have hDl := (Array.getElem?_eq_some_iff.1 hK).1
    have c0 := hinv.1
    have c1 := rc_blocks hinv.2.1
    rw [HRN.out] at c1
    have z2 : decide ((nblk n : Int) < (nblk n : Int)) = false := decide_eq_false (by omega)
    have z1 : ¬ (nblk n : Int) < (nblk n : Int) := by omega
    clear hinv inv0
    gi_wp2_with (first | (refine ⟨trivial, ?_⟩; gi_at_call 27; refine (callsIn_wide.2 (HCT.out _)).mono ?_; rintro e A2 ⟨rfl, rfl⟩))
    gi_loopw [8] (fun v8 wr => v8 = .int .i64 (nblk n : Int) ∧ wr = A) (fun _ _ => 0)
    case atStart => exact ⟨rfl, rfl⟩
    case round =>
      obtain ⟨rfl, rfl⟩ := hrel
      gi_wp2
      refine ⟨by simp, .inl ⟨_, _, rfl, run_takeDeferred hK, ?_⟩⟩
      refine ⟨.slice none 0 0, ?_, rfl, HI.out.2.2.1.trans (below_putP _ (by omega) hDl)⟩
      simp [results, Tryd.f13, go_sem]
  case stop =>
    rintro D pre A hD hpre hF hK
    exact hF.elim
end
set_option maxRecDepth 100000 in
set_option maxHeartbeats 4000000 in
/-- A record fits its own bytes. -/
theorem fits_yes (r : Rc) (l : By) (q : Option Addr) (n cap : Nat) (w : World) (h : DgAt w r (digs l)) (hsz : r.size = (n : Int)) (hdd : r.dead = false) (hwh : r.whole = digL l) (hl : l.length = n) (hs : Sl w q l) (hc : n ≤ cap) (hn : n < 1000000) (hT : Tb w) :
    Calls Tryd.prog 12 #[rcV r, .slice q n cap] w fun e w' => e = .returned (.bool true) ∧ Below w.heap.size w w' := by
  obtain ⟨W, hW⟩ : ∃ W, w.alloc (.cells (tab 54 (rcF r)) 33) = W := ⟨_, rfl⟩
  have hB1 : Below w.heap.size w W := by rw [← hW]; exact below_newD _ _
  have hR : Row W w.heap.size 33 54 (rcF r) := by rw [← hW]; exact Row.new w _ 54 _
  have HB := Lib.hid hB1
  obtain ⟨V, hV⟩ : ∃ V, rcV r = V := ⟨_, rfl⟩
  have x1 : (bxT 33 V).run Tryd.prog w = .ok (.value (.pointer (some ⟨w.heap.size, 0, none⟩))) W := by rw [← hV, ← hW]; exact boxP w r
  rw [hV]
  obtain ⟨wh, hwh2⟩ : ∃ wh, digL l = wh := ⟨_, rfl⟩
  have HS := Lib.hid (fun (u : World) (hu : Below W.heap.size W u) => (show _ ∧ _ ∧ _ ∧ _ ∧ _ from ⟨rc_dead (hR.of_below hu), rc_size (hR.of_below hu), loadP_at (hR.of_below hu), ld_dig (rc_whole (hR.of_below hu) h.whole) h.whole, hu⟩))
  have HSM := Lib.hid (fun (b : Nat) (u : World) (hu : Below W.heap.size W u) (hc4 : u.cell? ⟨b, 0, none⟩ = some (.slice q n cap)) => sum1_any l b 0 q n cap u hl hc4 (hs.of_below (hB1.trans (hu.mono hB1.size))) (hT.on (hB1.trans (hu.mono hB1.size))) (by omega))
  have HBD := Lib.hid (fun (u : World) (hu : Below W.heap.size W u) => bad_none r l q n cap u (h.of_below (hB1.trans (hu.mono hB1.size))) hsz hl (hs.of_below (hB1.trans (hu.mono hB1.size))) hc hn (hT.on (hB1.trans (hu.mono hB1.size))))
  rw [hV] at HBD
  rw [hwh2] at HSM
  rw [hV, hwh, hwh2, hdd, hsz] at HS
  clear hW hV hB1 hR h hsz hdd hwh hl hs hT hwh2
  go_enter Tryd.func12, Tryd.ntmps12
  go_wp2
  refine wp_region_noPanic ?_
  refine wp_region_held_drew (S := (fun u : World => u.cell? ⟨w.heap.size, 20, none⟩ = some (.bool false) ∧ u.cell? ⟨w.heap.size, 1, none⟩ = some (.int .i64 (n : Int)) ∧ (ldT 33 (.pointer (some ⟨w.heap.size, 0, none⟩))).run Tryd.prog u = .ok (.value V) u ∧ (ldT 23 (.pointer (some ⟨w.heap.size, 21, none⟩))).run Tryd.prog u = .ok (.value (digV wh)) u ∧ Below W.heap.size W u)) (by kernel_rfl) (HS.out W.drew (Below.refl _ _).drew) (fun hHeld => ?_)
  generalize W.drew = x at hHeld ⊢
  refine wpAnyH_take (i := 0) (v := ?_) (by simp only [List.getElem?_toArray, List.getElem?_cons_succ, List.getElem?_cons_zero]; exact rfl) (by kernel_rfl) (by kernel_rfl) (by kernel_rfl) (fun _ _ _ h => h) (Or.inl ⟨by rfl, ?_⟩) (by assumption) ?_
  rotate_left 1
  · (intro w hSw; (try dsimp only at hSw); go_simp; try with_reducible rfl)
  try simp only [Act.put, List.setIfInBounds_toArray, List.set_cons_zero, List.set_cons_succ]
  refine wpAnyH_take (i := 1) (v := ?_) (by simp only [List.getElem?_toArray, List.getElem?_cons_succ, List.getElem?_cons_zero]; exact rfl) (by kernel_rfl) (by kernel_rfl) (by kernel_rfl) (fun _ _ _ h => h) (Or.inl ⟨by rfl, ?_⟩) (by assumption) ?_
  rotate_left 1
  · (intro w hSw; (try dsimp only at hSw); go_simp; try with_reducible rfl)
  try simp only [Act.put, List.setIfInBounds_toArray, List.set_cons_zero, List.set_cons_succ]
  refine wpAnyH_take (i := 2) (v := ?_) (by simp only [List.getElem?_toArray, List.getElem?_cons_succ, List.getElem?_cons_zero]; exact rfl) (by kernel_rfl) (by kernel_rfl) (by kernel_rfl) (fun _ _ _ h => h) (Or.inl ⟨by rfl, ?_⟩) (by assumption) ?_
  rotate_left 1
  · (intro w hSw; (try dsimp only at hSw); go_simp; try with_reducible rfl)
  try simp only [Act.put, List.setIfInBounds_toArray, List.set_cons_zero, List.set_cons_succ]
  refine wpAnyH_take (i := 3) (v := ?_) (by simp only [List.getElem?_toArray, List.getElem?_cons_succ, List.getElem?_cons_zero]; exact rfl) (by kernel_rfl) (by kernel_rfl) (by kernel_rfl) (fun _ _ _ h => h) (Or.inl ⟨by rfl, ?_⟩) (by assumption) ?_
  rotate_left 1
  · (intro w hSw; (try dsimp only at hSw); go_simp; try with_reducible rfl)
  try simp only [Act.put, List.setIfInBounds_toArray, List.set_cons_zero, List.set_cons_succ]
  refine wpAnyH_take (i := 4) (v := ?_) (by simp only [List.getElem?_toArray, List.getElem?_cons_succ, List.getElem?_cons_zero]; exact rfl) (by kernel_rfl) (by kernel_rfl) (by kernel_rfl) (fun _ _ _ h => h) (Or.inl ⟨by rfl, ?_⟩) (by assumption) ?_
  rotate_left 1
  · (intro w hSw; (try dsimp only at hSw); go_simp; try with_reducible rfl)
  try simp only [Act.put, List.setIfInBounds_toArray, List.set_cons_zero, List.set_cons_succ]
  refine wpAnyH_take (i := 5) (v := ?_) (by simp only [List.getElem?_toArray, List.getElem?_cons_succ, List.getElem?_cons_zero]; exact rfl) (by kernel_rfl) (by kernel_rfl) (by kernel_rfl) (fun _ _ _ h => h) (Or.inl ⟨by rfl, ?_⟩) (by assumption) ?_
  rotate_left 1
  · (intro w hSw; (try dsimp only at hSw); go_simp; try with_reducible rfl)
  try simp only [Act.put, List.setIfInBounds_toArray, List.set_cons_zero, List.set_cons_succ]
  refine wpAnyH_take (i := 6) (v := ?_) (by simp only [List.getElem?_toArray, List.getElem?_cons_succ, List.getElem?_cons_zero]; exact rfl) (by kernel_rfl) (by kernel_rfl) (by kernel_rfl) (fun _ _ _ h => h) (Or.inl ⟨by rfl, ?_⟩) (by assumption) ?_
  rotate_left 1
  · (intro w hSw; (try dsimp only at hSw); go_simp; try with_reducible rfl)
  try simp only [Act.put, List.setIfInBounds_toArray, List.set_cons_zero, List.set_cons_succ]
  refine wpAnyH_take (i := 7) (v := ?_) (by simp only [List.getElem?_toArray, List.getElem?_cons_succ, List.getElem?_cons_zero]; exact rfl) (by kernel_rfl) (by kernel_rfl) (by kernel_rfl) (fun _ _ _ h => h) (Or.inl ⟨by rfl, ?_⟩) (by assumption) ?_
  rotate_left 1
  · (intro w hSw; (try dsimp only at hSw); go_simp; try with_reducible rfl)
  try simp only [Act.put, List.setIfInBounds_toArray, List.set_cons_zero, List.set_cons_succ]
  refine wpAnyH_take (i := 8) (v := ?_) (by simp only [List.getElem?_toArray, List.getElem?_cons_succ, List.getElem?_cons_zero]; exact rfl) (by kernel_rfl) (by kernel_rfl) (by kernel_rfl) (fun _ _ _ h => h) (Or.inl ⟨by rfl, ?_⟩) (by assumption) ?_
  rotate_left 1
  · (intro w hSw; (try dsimp only at hSw); go_simp; try with_reducible rfl)
  try simp only [Act.put, List.setIfInBounds_toArray, List.set_cons_zero, List.set_cons_succ]
  refine wpAnyH_take (i := 9) (v := ?_) (by simp only [List.getElem?_toArray, List.getElem?_cons_succ, List.getElem?_cons_zero]; exact rfl) (by kernel_rfl) (by kernel_rfl) (by kernel_rfl) (fun _ _ _ h => h) (Or.inl ⟨by rfl, ?_⟩) (by assumption) ?_
  rotate_left 1
  · (intro w hSw; (try dsimp only at hSw); go_simp; try with_reducible rfl)
  try simp only [Act.put, List.setIfInBounds_toArray, List.set_cons_zero, List.set_cons_succ]
  refine wpAnyH_take (i := 10) (v := ?_) (by simp only [List.getElem?_toArray, List.getElem?_cons_succ, List.getElem?_cons_zero]; exact rfl) (by kernel_rfl) (by kernel_rfl) (by kernel_rfl) (fun _ _ _ h => h) (Or.inl ⟨by rfl, ?_⟩) (by assumption) ?_
  rotate_left 1
  · (intro w hSw; (try dsimp only at hSw); go_simp; try with_reducible rfl)
  try simp only [Act.put, List.setIfInBounds_toArray, List.set_cons_zero, List.set_cons_succ]
  refine wpAnyH_take (i := 11) (v := ?_) (by simp only [List.getElem?_toArray, List.getElem?_cons_succ, List.getElem?_cons_zero]; exact rfl) (by kernel_rfl) (by kernel_rfl) (by kernel_rfl) (fun _ _ _ h => h) (Or.inl ⟨by rfl, ?_⟩) (by assumption) ?_
  rotate_left 1
  · (intro w hSw; (try dsimp only at hSw); go_simp; try with_reducible rfl)
  try simp only [Act.put, List.setIfInBounds_toArray, List.set_cons_zero, List.set_cons_succ]
  refine wpAnyH_take (i := 12) (v := ?_) (by simp only [List.getElem?_toArray, List.getElem?_cons_succ, List.getElem?_cons_zero]; exact rfl) (by kernel_rfl) (by kernel_rfl) (by kernel_rfl) (fun _ _ _ h => h) (Or.inl ⟨by rfl, ?_⟩) (by assumption) ?_
  rotate_left 1
  · (intro w hSw; (try dsimp only at hSw); go_simp; try with_reducible rfl)
  try simp only [Act.put, List.setIfInBounds_toArray, List.set_cons_zero, List.set_cons_succ]
  refine wpAnyH_take (i := 13) (v := ?_) (by simp only [List.getElem?_toArray, List.getElem?_cons_succ, List.getElem?_cons_zero]; exact rfl) (by kernel_rfl) (by kernel_rfl) (by kernel_rfl) (fun _ _ _ h => h) (Or.inl ⟨by rfl, ?_⟩) (by assumption) ?_
  rotate_left 1
  · (intro w hSw; (try dsimp only at hSw); go_simp; try with_reducible rfl)
  try simp only [Act.put, List.setIfInBounds_toArray, List.set_cons_zero, List.set_cons_succ]
  refine wpAnyH_ready (rs := [14]) (by kernel_rfl) (by simp) ?_
  refine (AllReadyH.cons (by simp only [List.getElem?_toArray, List.getElem?_cons_succ, List.getElem?_cons_zero]; exact rfl) (fun K hK => ?_) AllReadyH.nil)
  go_simp
  refine (HBD.out x hHeld.2.2.2.2).mono ?_
  rintro e x2 ⟨rfl, hb3⟩
  have hX2 := hHeld.2.2.2.2.trans (hb3.mono hHeld.2.2.2.2.size)
  go_wp2_with fail
  refine hK.out _ _ (HS.out _ hX2) (fun hHeld => ?_)
  clear hK K
  try simp only [Act.put, List.setIfInBounds_toArray, List.set_cons_zero, List.set_cons_succ]
  refine wpAnyH_take (i := 15) (v := ?_) (by simp only [List.getElem?_toArray, List.getElem?_cons_succ, List.getElem?_cons_zero]; exact rfl) (by kernel_rfl) (by kernel_rfl) (by kernel_rfl) (fun _ _ _ h => h) (Or.inl ⟨by rfl, ?_⟩) (by assumption) ?_
  rotate_left 1
  · (intro w hSw; (try dsimp only at hSw); go_simp; try with_reducible rfl)
  try simp only [Act.put, List.setIfInBounds_toArray, List.set_cons_zero, List.set_cons_succ]
  refine wpAnyH_take (i := 16) (v := ?_) (by simp only [List.getElem?_toArray, List.getElem?_cons_succ, List.getElem?_cons_zero]; exact rfl) (by kernel_rfl) (by kernel_rfl) (by kernel_rfl) (fun _ _ _ h => h) (Or.inl ⟨by rfl, ?_⟩) (by assumption) ?_
  rotate_left 1
  · (intro w hSw; (try dsimp only at hSw); go_simp; try with_reducible rfl)
  try simp only [Act.put, List.setIfInBounds_toArray, List.set_cons_zero, List.set_cons_succ]
  refine wpAnyH_take (i := 17) (v := ?_) (by simp only [List.getElem?_toArray, List.getElem?_cons_succ, List.getElem?_cons_zero]; exact rfl) (by kernel_rfl) (by kernel_rfl) (by kernel_rfl) (fun _ _ _ h => h) (Or.inl ⟨by rfl, ?_⟩) (by assumption) ?_
  rotate_left 1
  · (intro w hSw; (try dsimp only at hSw); go_simp; try with_reducible rfl)
  try simp only [Act.put, List.setIfInBounds_toArray, List.set_cons_zero, List.set_cons_succ]
  refine wpAnyH_take (i := 18) (v := ?_) (by simp only [List.getElem?_toArray, List.getElem?_cons_succ, List.getElem?_cons_zero]; exact rfl) (by kernel_rfl) (by kernel_rfl) (by kernel_rfl) (fun _ _ _ h => h) (Or.inl ⟨by rfl, ?_⟩) (by assumption) ?_
  rotate_left 1
  · (intro w hSw; (try dsimp only at hSw); go_simp; try with_reducible rfl)
  try simp only [Act.put, List.setIfInBounds_toArray, List.set_cons_zero, List.set_cons_succ]
  refine wpAnyH_take (i := 19) (v := ?_) (by simp only [List.getElem?_toArray, List.getElem?_cons_succ, List.getElem?_cons_zero]; exact rfl) (by kernel_rfl) (by kernel_rfl) (by kernel_rfl) (fun _ _ _ h => h) (Or.inl ⟨by rfl, ?_⟩) (by assumption) ?_
  rotate_left 1
  · (intro w hSw; (try dsimp only at hSw); go_simp; try with_reducible rfl)
  try simp only [Act.put, List.setIfInBounds_toArray, List.set_cons_zero, List.set_cons_succ]
  refine wpAnyH_take (i := 22) (v := ?_) (by simp only [List.getElem?_toArray, List.getElem?_cons_succ, List.getElem?_cons_zero]; exact rfl) (by kernel_rfl) (by kernel_rfl) (by kernel_rfl) (fun _ _ _ h => h) (Or.inl ⟨by rfl, ?_⟩) (by assumption) ?_
  rotate_left 1
  · (intro w hSw; (try dsimp only at hSw); go_simp; try with_reducible rfl)
  try simp only [Act.put, List.setIfInBounds_toArray, List.set_cons_zero, List.set_cons_succ]
  refine wpAnyH_take (i := 23) (v := ?_) (by simp only [List.getElem?_toArray, List.getElem?_cons_succ, List.getElem?_cons_zero]; exact rfl) (by kernel_rfl) (by kernel_rfl) (by kernel_rfl) (fun _ _ _ h => h) (Or.inl ⟨by rfl, ?_⟩) (by assumption) ?_
  rotate_left 1
  · (intro w hSw; (try dsimp only at hSw); go_simp; try with_reducible rfl)
  try simp only [Act.put, List.setIfInBounds_toArray, List.set_cons_zero, List.set_cons_succ]
  refine wpAnyH_ready (rs := [20]) (by kernel_rfl) (by simp) ?_
  refine (AllReadyH.cons (by simp only [List.getElem?_toArray, List.getElem?_cons_succ, List.getElem?_cons_zero]; exact rfl) (fun K hK => ?_) AllReadyH.nil)
  go_simp
  obtain ⟨y, hy⟩ : ∃ y, (x2.alloc (.cells #[.slice q n cap] 27)) = y := ⟨_, rfl⟩
  have hBa : Below x2.heap.size x2 y := by rw [← hy]; exact below_newD _ _
  have hC := (show y.cell? ⟨x2.heap.size, 0, none⟩ = some (.slice q n cap) from by rw [← hy]; exact World.cell?_alloc_new _ _ _ _)
  rw [hy]
  have hXY := hHeld.2.2.2.2.trans (hBa.mono hHeld.2.2.2.2.size)
  clear hy hBa
  refine hK.out _ _ (HS.out _ hXY) (fun hHeld => ?_)
  clear hK K
  try simp only [Act.put, List.setIfInBounds_toArray, List.set_cons_zero, List.set_cons_succ]
  refine wpAnyH_ready (rs := [21]) (by kernel_rfl) (by simp) ?_
  refine (AllReadyH.cons (by simp only [List.getElem?_toArray, List.getElem?_cons_succ, List.getElem?_cons_zero]; exact rfl) (fun K hK => ?_) AllReadyH.nil)
  go_simp
  refine (HSM.out x2.heap.size y hXY hC).mono ?_
  rintro e z ⟨rfl, hb5⟩
  have hXZ := hXY.trans (hb5.mono hXY.size)
  go_wp2_with fail
  refine hK.out _ _ (HS.out _ hXZ) (fun hHeld => ?_)
  clear hK K
  try simp only [Act.put, List.setIfInBounds_toArray, List.set_cons_zero, List.set_cons_succ]
  refine wpAnyH_take (i := 24) (v := ?_) (by simp only [List.getElem?_toArray, List.getElem?_cons_succ, List.getElem?_cons_zero]; exact rfl) (by kernel_rfl) (by kernel_rfl) (by kernel_rfl) (fun _ _ _ h => h) (Or.inl ⟨by rfl, ?_⟩) (by assumption) ?_
  rotate_left 1
  · (intro w hSw; (try dsimp only at hSw); go_simp; try with_reducible rfl)
  try simp only [Act.put, List.setIfInBounds_toArray, List.set_cons_zero, List.set_cons_succ]
  refine wpAnyH_take (i := 25) (v := ?_) (by simp only [List.getElem?_toArray, List.getElem?_cons_succ, List.getElem?_cons_zero]; exact rfl) (by kernel_rfl) (by kernel_rfl) (by kernel_rfl) (fun _ _ _ h => h) (Or.inl ⟨by rfl, ?_⟩) (by assumption) ?_
  rotate_left 1
  · (intro w hSw; (try dsimp only at hSw); go_simp; try with_reducible rfl)
  try simp only [Act.put, List.setIfInBounds_toArray, List.set_cons_zero, List.set_cons_succ]
  refine wpAnyH_take (i := 26) (v := ?_) (by simp only [List.getElem?_toArray, List.getElem?_cons_succ, List.getElem?_cons_zero]; exact rfl) (by kernel_rfl) (by kernel_rfl) (by kernel_rfl) (fun _ _ _ h => h) (Or.inl ⟨by rfl, ?_⟩) (by assumption) ?_
  rotate_left 1
  · (intro w hSw; (try dsimp only at hSw); go_simp; try with_reducible rfl)
  try simp only [Act.put, List.setIfInBounds_toArray, List.set_cons_zero, List.set_cons_succ]
  refine wpAnyH_done (by kernel_rfl) ?_ _
  refine NoPanic.normal ?_
  go_wp2
  go_ret
  exact ⟨rfl, HB.out.trans (hHeld.2.2.2.2.mono HB.out.size)⟩

set_option maxRecDepth 100000 in
set_option maxHeartbeats 4000000 in
/-- Nothing fits a deleted file. -/
theorem fits_dead (r : Rc) (q : Option Addr) (n cap : Nat) (w : World) (hdd : r.dead = true) (hw : r.whole.length = 32) :
    Calls Tryd.prog 12 #[rcV r, .slice q n cap] w fun e w' => e = .returned (.bool false) ∧ Below w.heap.size w w' := by
  obtain ⟨W, hW⟩ : ∃ W, w.alloc (.cells (tab 54 (rcF r)) 33) = W := ⟨_, rfl⟩
  have hB1 : Below w.heap.size w W := by rw [← hW]; exact below_newD _ _
  have hR : Row W w.heap.size 33 54 (rcF r) := by rw [← hW]; exact Row.new w _ 54 _
  have HB := Lib.hid hB1
  obtain ⟨V, hV⟩ : ∃ V, rcV r = V := ⟨_, rfl⟩
  have x1 : (bxT 33 V).run Tryd.prog w = .ok (.value (.pointer (some ⟨w.heap.size, 0, none⟩))) W := by rw [← hV, ← hW]; exact boxP w r
  rw [hV]
  have HS := Lib.hid (fun (u : World) (hu : Below W.heap.size W u) => (show _ ∧ _ from ⟨rc_dead (hR.of_below hu), hu⟩))
  rw [hdd] at HS
  clear hW hV hB1 hR hdd hw
  go_enter Tryd.func12, Tryd.ntmps12
  go_wp2
  refine wp_region_noPanic ?_
  refine wp_region_held_drew (S := (fun u : World => u.cell? ⟨w.heap.size, 20, none⟩ = some (.bool true) ∧ Below W.heap.size W u)) (by kernel_rfl) (HS.out W.drew (Below.refl _ _).drew) (fun hHeld => ?_)
  refine wpAnyH_take (i := 0) (v := ?_) (by simp only [List.getElem?_toArray, List.getElem?_cons_succ, List.getElem?_cons_zero]; exact rfl) (by kernel_rfl) (by kernel_rfl) (by kernel_rfl) (fun _ _ _ h => h) (Or.inl ⟨by rfl, ?_⟩) (by assumption) ?_
  rotate_left 1
  · (intro w hSw; (try dsimp only at hSw); go_simp; try with_reducible rfl)
  try simp only [Act.put, List.setIfInBounds_toArray, List.set_cons_zero, List.set_cons_succ]
  refine wpAnyH_take (i := 1) (v := ?_) (by simp only [List.getElem?_toArray, List.getElem?_cons_succ, List.getElem?_cons_zero]; exact rfl) (by kernel_rfl) (by kernel_rfl) (by kernel_rfl) (fun _ _ _ h => h) (Or.inl ⟨by rfl, ?_⟩) (by assumption) ?_
  rotate_left 1
  · (intro w hSw; (try dsimp only at hSw); go_simp; try with_reducible rfl)
  try simp only [Act.put, List.setIfInBounds_toArray, List.set_cons_zero, List.set_cons_succ]
  refine wpAnyH_take (i := 2) (v := ?_) (by simp only [List.getElem?_toArray, List.getElem?_cons_succ, List.getElem?_cons_zero]; exact rfl) (by kernel_rfl) (by kernel_rfl) (by kernel_rfl) (fun _ _ _ h => h) (Or.inl ⟨by rfl, ?_⟩) (by assumption) ?_
  rotate_left 1
  · (intro w hSw; (try dsimp only at hSw); go_simp; try with_reducible rfl)
  try simp only [Act.put, List.setIfInBounds_toArray, List.set_cons_zero, List.set_cons_succ]
  refine wpAnyH_take (i := 3) (v := ?_) (by simp only [List.getElem?_toArray, List.getElem?_cons_succ, List.getElem?_cons_zero]; exact rfl) (by kernel_rfl) (by kernel_rfl) (by kernel_rfl) (fun _ _ _ h => h) (Or.inl ⟨by rfl, ?_⟩) (by assumption) ?_
  rotate_left 1
  · (intro w hSw; (try dsimp only at hSw); go_simp; try with_reducible rfl)
  try simp only [Act.put, List.setIfInBounds_toArray, List.set_cons_zero, List.set_cons_succ]
  refine wpAnyH_take (i := 4) (v := undef) (by simp only [List.getElem?_toArray, List.getElem?_cons_succ, List.getElem?_cons_zero]; exact rfl) (by kernel_rfl) (by kernel_rfl) (by kernel_rfl) (fun _ _ _ h => h) (Or.inr ⟨by rfl, rfl⟩) (by assumption) ?_
  try simp only [Act.put, List.setIfInBounds_toArray, List.set_cons_zero, List.set_cons_succ]
  refine wpAnyH_take (i := 5) (v := undef) (by simp only [List.getElem?_toArray, List.getElem?_cons_succ, List.getElem?_cons_zero]; exact rfl) (by kernel_rfl) (by kernel_rfl) (by kernel_rfl) (fun _ _ _ h => h) (Or.inr ⟨by rfl, rfl⟩) (by assumption) ?_
  try simp only [Act.put, List.setIfInBounds_toArray, List.set_cons_zero, List.set_cons_succ]
  refine wpAnyH_take (i := 6) (v := undef) (by simp only [List.getElem?_toArray, List.getElem?_cons_succ, List.getElem?_cons_zero]; exact rfl) (by kernel_rfl) (by kernel_rfl) (by kernel_rfl) (fun _ _ _ h => h) (Or.inr ⟨by rfl, rfl⟩) (by assumption) ?_
  try simp only [Act.put, List.setIfInBounds_toArray, List.set_cons_zero, List.set_cons_succ]
  refine wpAnyH_take (i := 7) (v := undef) (by simp only [List.getElem?_toArray, List.getElem?_cons_succ, List.getElem?_cons_zero]; exact rfl) (by kernel_rfl) (by kernel_rfl) (by kernel_rfl) (fun _ _ _ h => h) (Or.inr ⟨by rfl, rfl⟩) (by assumption) ?_
  try simp only [Act.put, List.setIfInBounds_toArray, List.set_cons_zero, List.set_cons_succ]
  refine wpAnyH_take (i := 8) (v := undef) (by simp only [List.getElem?_toArray, List.getElem?_cons_succ, List.getElem?_cons_zero]; exact rfl) (by kernel_rfl) (by kernel_rfl) (by kernel_rfl) (fun _ _ _ h => h) (Or.inr ⟨by rfl, rfl⟩) (by assumption) ?_
  try simp only [Act.put, List.setIfInBounds_toArray, List.set_cons_zero, List.set_cons_succ]
  refine wpAnyH_take (i := 9) (v := undef) (by simp only [List.getElem?_toArray, List.getElem?_cons_succ, List.getElem?_cons_zero]; exact rfl) (by kernel_rfl) (by kernel_rfl) (by kernel_rfl) (fun _ _ _ h => h) (Or.inr ⟨by rfl, rfl⟩) (by assumption) ?_
  try simp only [Act.put, List.setIfInBounds_toArray, List.set_cons_zero, List.set_cons_succ]
  refine wpAnyH_take (i := 10) (v := ?_) (by simp only [List.getElem?_toArray, List.getElem?_cons_succ, List.getElem?_cons_zero]; exact rfl) (by kernel_rfl) (by kernel_rfl) (by kernel_rfl) (fun _ _ _ h => h) (Or.inl ⟨by rfl, ?_⟩) (by assumption) ?_
  rotate_left 1
  · (intro w hSw; (try dsimp only at hSw); go_simp; try with_reducible rfl)
  try simp only [Act.put, List.setIfInBounds_toArray, List.set_cons_zero, List.set_cons_succ]
  refine wpAnyH_take (i := 11) (v := ?_) (by simp only [List.getElem?_toArray, List.getElem?_cons_succ, List.getElem?_cons_zero]; exact rfl) (by kernel_rfl) (by kernel_rfl) (by kernel_rfl) (fun _ _ _ h => h) (Or.inl ⟨by rfl, ?_⟩) (by assumption) ?_
  rotate_left 1
  · (intro w hSw; (try dsimp only at hSw); go_simp; try with_reducible rfl)
  try simp only [Act.put, List.setIfInBounds_toArray, List.set_cons_zero, List.set_cons_succ]
  refine wpAnyH_take (i := 12) (v := undef) (by simp only [List.getElem?_toArray, List.getElem?_cons_succ, List.getElem?_cons_zero]; exact rfl) (by kernel_rfl) (by kernel_rfl) (by kernel_rfl) (fun _ _ _ h => h) (Or.inr ⟨by rfl, rfl⟩) (by assumption) ?_
  try simp only [Act.put, List.setIfInBounds_toArray, List.set_cons_zero, List.set_cons_succ]
  refine wpAnyH_take (i := 13) (v := undef) (by simp only [List.getElem?_toArray, List.getElem?_cons_succ, List.getElem?_cons_zero]; exact rfl) (by kernel_rfl) (by kernel_rfl) (by kernel_rfl) (fun _ _ _ h => h) (Or.inr ⟨by rfl, rfl⟩) (by assumption) ?_
  try simp only [Act.put, List.setIfInBounds_toArray, List.set_cons_zero, List.set_cons_succ]
  refine wpAnyH_take (i := 14) (v := undef) (by simp only [List.getElem?_toArray, List.getElem?_cons_succ, List.getElem?_cons_zero]; exact rfl) (by kernel_rfl) (by kernel_rfl) (by kernel_rfl) (fun _ _ _ h => h) (Or.inr ⟨by rfl, rfl⟩) (by assumption) ?_
  try simp only [Act.put, List.setIfInBounds_toArray, List.set_cons_zero, List.set_cons_succ]
  refine wpAnyH_take (i := 15) (v := undef) (by simp only [List.getElem?_toArray, List.getElem?_cons_succ, List.getElem?_cons_zero]; exact rfl) (by kernel_rfl) (by kernel_rfl) (by kernel_rfl) (fun _ _ _ h => h) (Or.inr ⟨by rfl, rfl⟩) (by assumption) ?_
  try simp only [Act.put, List.setIfInBounds_toArray, List.set_cons_zero, List.set_cons_succ]
  refine wpAnyH_take (i := 16) (v := undef) (by simp only [List.getElem?_toArray, List.getElem?_cons_succ, List.getElem?_cons_zero]; exact rfl) (by kernel_rfl) (by kernel_rfl) (by kernel_rfl) (fun _ _ _ h => h) (Or.inr ⟨by rfl, rfl⟩) (by assumption) ?_
  try simp only [Act.put, List.setIfInBounds_toArray, List.set_cons_zero, List.set_cons_succ]
  refine wpAnyH_take (i := 17) (v := ?_) (by simp only [List.getElem?_toArray, List.getElem?_cons_succ, List.getElem?_cons_zero]; exact rfl) (by kernel_rfl) (by kernel_rfl) (by kernel_rfl) (fun _ _ _ h => h) (Or.inl ⟨by rfl, ?_⟩) (by assumption) ?_
  rotate_left 1
  · (intro w hSw; (try dsimp only at hSw); go_simp; try with_reducible rfl)
  try simp only [Act.put, List.setIfInBounds_toArray, List.set_cons_zero, List.set_cons_succ]
  refine wpAnyH_take (i := 18) (v := ?_) (by simp only [List.getElem?_toArray, List.getElem?_cons_succ, List.getElem?_cons_zero]; exact rfl) (by kernel_rfl) (by kernel_rfl) (by kernel_rfl) (fun _ _ _ h => h) (Or.inl ⟨by rfl, ?_⟩) (by assumption) ?_
  rotate_left 1
  · (intro w hSw; (try dsimp only at hSw); go_simp; try with_reducible rfl)
  try simp only [Act.put, List.setIfInBounds_toArray, List.set_cons_zero, List.set_cons_succ]
  refine wpAnyH_take (i := 19) (v := undef) (by simp only [List.getElem?_toArray, List.getElem?_cons_succ, List.getElem?_cons_zero]; exact rfl) (by kernel_rfl) (by kernel_rfl) (by kernel_rfl) (fun _ _ _ h => h) (Or.inr ⟨by rfl, rfl⟩) (by assumption) ?_
  try simp only [Act.put, List.setIfInBounds_toArray, List.set_cons_zero, List.set_cons_succ]
  refine wpAnyH_take (i := 20) (v := undef) (by simp only [List.getElem?_toArray, List.getElem?_cons_succ, List.getElem?_cons_zero]; exact rfl) (by kernel_rfl) (by kernel_rfl) (by kernel_rfl) (fun _ _ _ h => h) (Or.inr ⟨by rfl, rfl⟩) (by assumption) ?_
  try simp only [Act.put, List.setIfInBounds_toArray, List.set_cons_zero, List.set_cons_succ]
  refine wpAnyH_take (i := 21) (v := undef) (by simp only [List.getElem?_toArray, List.getElem?_cons_succ, List.getElem?_cons_zero]; exact rfl) (by kernel_rfl) (by kernel_rfl) (by kernel_rfl) (fun _ _ _ h => h) (Or.inr ⟨by rfl, rfl⟩) (by assumption) ?_
  try simp only [Act.put, List.setIfInBounds_toArray, List.set_cons_zero, List.set_cons_succ]
  refine wpAnyH_take (i := 22) (v := undef) (by simp only [List.getElem?_toArray, List.getElem?_cons_succ, List.getElem?_cons_zero]; exact rfl) (by kernel_rfl) (by kernel_rfl) (by kernel_rfl) (fun _ _ _ h => h) (Or.inr ⟨by rfl, rfl⟩) (by assumption) ?_
  try simp only [Act.put, List.setIfInBounds_toArray, List.set_cons_zero, List.set_cons_succ]
  refine wpAnyH_take (i := 23) (v := undef) (by simp only [List.getElem?_toArray, List.getElem?_cons_succ, List.getElem?_cons_zero]; exact rfl) (by kernel_rfl) (by kernel_rfl) (by kernel_rfl) (fun _ _ _ h => h) (Or.inr ⟨by rfl, rfl⟩) (by assumption) ?_
  try simp only [Act.put, List.setIfInBounds_toArray, List.set_cons_zero, List.set_cons_succ]
  refine wpAnyH_take (i := 24) (v := undef) (by simp only [List.getElem?_toArray, List.getElem?_cons_succ, List.getElem?_cons_zero]; exact rfl) (by kernel_rfl) (by kernel_rfl) (by kernel_rfl) (fun _ _ _ h => h) (Or.inr ⟨by rfl, rfl⟩) (by assumption) ?_
  try simp only [Act.put, List.setIfInBounds_toArray, List.set_cons_zero, List.set_cons_succ]
  refine wpAnyH_take (i := 25) (v := ?_) (by simp only [List.getElem?_toArray, List.getElem?_cons_succ, List.getElem?_cons_zero]; exact rfl) (by kernel_rfl) (by kernel_rfl) (by kernel_rfl) (fun _ _ _ h => h) (Or.inl ⟨by rfl, ?_⟩) (by assumption) ?_
  rotate_left 1
  · (intro w hSw; (try dsimp only at hSw); go_simp; try with_reducible rfl)
  try simp only [Act.put, List.setIfInBounds_toArray, List.set_cons_zero, List.set_cons_succ]
  refine wpAnyH_take (i := 26) (v := ?_) (by simp only [List.getElem?_toArray, List.getElem?_cons_succ, List.getElem?_cons_zero]; exact rfl) (by kernel_rfl) (by kernel_rfl) (by kernel_rfl) (fun _ _ _ h => h) (Or.inl ⟨by rfl, ?_⟩) (by assumption) ?_
  rotate_left 1
  · (intro w hSw; (try dsimp only at hSw); go_simp; try with_reducible rfl)
  try simp only [Act.put, List.setIfInBounds_toArray, List.set_cons_zero, List.set_cons_succ]
  refine wpAnyH_done (by kernel_rfl) ?_ _
  refine NoPanic.normal ?_
  go_wp2
  go_ret
  exact ⟨rfl, HB.out.trans (hHeld.2.mono HB.out.size)⟩
end Go.Proofs.YtfemgkamgokjcaaDoor
