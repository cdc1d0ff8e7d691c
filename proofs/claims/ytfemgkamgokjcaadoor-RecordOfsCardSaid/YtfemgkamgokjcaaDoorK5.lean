/- Merged texts: Gon10, Ofp10, RefS7, RefK7, Gdm10, Rof10, Rog10, Roh10, Sam10. -/
import Derived.Test.YtfemgkamgokjcaaDoorK3
import Derived.Test.YtfemgkamgokjcaaDoorK4
import Derived.Deep.RegionHeld3
import Derived.Test.YtfemgkamgokjcaaDoorK2
import Derived.Test.YtfemgkamgokjcaaDoorRef7
set_option linter.unusedSimpArgs false
set_option linter.unusedVariables false
/- The record of what is gone; a record in the words of the reference. -/
set_option maxRecDepth 100000
namespace Go.Proofs.YtfemgkamgokjcaaDoor
open Go Go.RowKit

attribute [-go_sem] Sha.exec_store
theorem exec_storeP (r : Operand → Value) (dst : Option Tmp) (p v : Operand) (ty : TypeId) (pos : String) (after : Array Edge) (guard : Option (Nat × Bool)) :
    execOp r ⟨dst, .store 33 p v, ty, pos, after, guard⟩ = stT 33 (r p) (r v) := rfl
theorem exec_storeM (r : Operand → Value) (dst : Option Tmp) (p v : Operand) (ty : TypeId) (pos : String) (after : Array Edge) (guard : Option (Nat × Bool)) :
    execOp r ⟨dst, .store 26 p v, ty, pos, after, guard⟩ = stT 26 (r p) (r v) := rfl
theorem storeNewP (w : World) (N : Nat) (T2 : TypeId) (g : Nat → Value) (r : Rc) (hN : N = w.heap.size) : (stT 33 (.pointer (some ⟨N, 0, none⟩)) (rcV r)).run Tryd.prog (w.alloc (.cells (tab 54 g) T2)) = .ok .skip (w.alloc (.cells (tab 54 (rcF r)) T2)) := storeNewRT rtP w N T2 g r hN
theorem storeNewM (w : World) (N : Nat) (T2 : TypeId) (g : Nat → Value) (r : Rc) (hN : N = w.heap.size) : (stT 26 (.pointer (some ⟨N, 0, none⟩)) (rcV r)).run Tryd.prog (w.alloc (.cells (tab 54 g) T2)) = .ok .skip (w.alloc (.cells (tab 54 (rcF r)) T2)) := storeNewRT rtM w N T2 g r hN
theorem RT.undd {T : TypeId} (hT : RT T) : (∃ fs, Tryd.prog.underlying T = some (.struct fs)) ∨ ∃ n e, Tryd.prog.underlying T = some (.array n e) := by
  have hr := hT.und
  cases hq : Tryd.prog.underlying T with
  | none => rw [hq] at hr; cases hr
  | some d =>
    rw [hq] at hr
    cases d with
    | struct fs => exact .inl ⟨_, rfl⟩
    | array n e => exact .inr ⟨_, _, rfl⟩
    | _ => exact absurd hr (by simp [TypeDesc.isRow])
theorem resR {fn : Func} {p : Tmp} {T : TypeId} (hT : RT T) (h : fn.results = #[.cell p T]) (tmps : Array Value) (w : World) (b : Nat) (T2 : TypeId) (r : Rc) (hp : tmps.getD p undef = .pointer (some ⟨b, 0, none⟩)) (hR : Row w b T2 54 (rcF r)) : (results fn tmps).run Tryd.prog w = .ok (rcV r) w := by
  unfold rcV
  rcases hT.undd with ⟨d, hu⟩ | ⟨d, e, hu⟩
  · exact results_cell_row (P := Tryd.prog) h tmps w b T2 (tab 54 (rcF r)) (0, 0) _ hp hR hu rfl (by rw [hT.size, tab_size])
  · exact results_cell_row (P := Tryd.prog) h tmps w b T2 (tab 54 (rcF r)) (0, 0) _ hp hR hu rfl (by rw [hT.size, tab_size])
theorem resR2 {fn : Func} {p q : Tmp} {T : TypeId} (hT : RT T) (h : fn.results = #[.cell p T, .tmp q]) (tmps : Array Value) (w : World) (b : Nat) (T2 : TypeId) (r : Rc) (v : Value) (hp : tmps.getD p undef = .pointer (some ⟨b, 0, none⟩)) (hq : tmps.getD q undef = v) (hR : Row w b T2 54 (rcF r)) : (results fn tmps).run Tryd.prog w = .ok (.tuple #[rcV r, v]) w := by
  have hl : (loadVar T ⟨b, 0, none⟩).run Tryd.prog w = .ok (.agg (tab 54 (rcF r))) w := by
    rcases hT.undd with ⟨d, hu⟩ | ⟨d, e, hu⟩
    · exact run_loadVar_row (P := Tryd.prog) w b T2 T (tab 54 (rcF r)) (0, 0) _ hR hu rfl (by rw [hT.size, tab_size])
    · exact run_loadVar_row (P := Tryd.prog) w b T2 T (tab 54 (rcF r)) (0, 0) _ hR hu rfl (by rw [hT.size, tab_size])
  have hp' : tmps[p]?.getD undef = .pointer (some ⟨b, 0, none⟩) := by simpa using hp
  have hq' : tmps[q]?.getD undef = v := by simpa using hq
  unfold rcV
  simp [results, h, hp', hq', asAddr, hl]
attribute [local go_sem ↓] exec_boxA exec_loadA exec_indexA exec_allocA exec_storeA exec_buildA exec_eqlA exec_neqA exec_boxV exec_loadV exec_indexV exec_allocV exec_storeV exec_buildV exec_eqlV exec_neqV
attribute [local go_sem] boxA indexA storeNewA buildA eqlA neqA boxV indexV storeNewV buildV eqlV neqV
attribute [local go_sem ↓] exec_loadS exec_boxS exec_boxP exec_boxM exec_allocP exec_allocM exec_storeP exec_storeM exec_buildP exec_buildM exec_buildS exec_load32 exec_build32 exec_eqlD exec_neqD
attribute [local go_sem] box_stamp boxP boxM storeNewP storeNewM bd32 eqlD neqD bdM0 bdP0 bdS3 bdM8 bdM5 bdP6 bdP5 bdP4

set_option maxRecDepth 100000 in
set_option maxHeartbeats 4000000 in
theorem ref10_any (r : Rc) (hw : r.whole.length = 32) (w : World) : Calls Tryd.prog 10 #[rcV r] w fun e w' => e = .returned (rcV r) ∧ Below w.heap.size w w' := by
  obtain ⟨W, hW⟩ : ∃ W, w.alloc (.cells (tab 54 (rcF r)) 33) = W := ⟨_, rfl⟩
  obtain ⟨W2, hW2⟩ : ∃ W2, W.alloc (.cells (tab 54 (rcF rc0)) 26) = W2 := ⟨_, rfl⟩
  have hR : Row W w.heap.size 33 54 (rcF r) := by rw [← hW]; exact Row.new w _ 54 (rcF r)
  have hB : Below w.heap.size w W := by rw [← hW]; exact (Below.refl _ _).alloc (Nat.le_refl _) _
  have hB2 : Below W.heap.size W W2 := by rw [← hW2]; exact (Below.refl _ _).alloc (Nat.le_refl _) _
  have hR2 := hR.of_below hB2
  have l1 := loadVT vtV (rc_ver hR2)
  have l2 := ld_dig (rc_whole hR2 hw) hw
  have l3 := rc_path hR2
  have l4 := rc_size hR2
  have l5 := rc_time hR2
  have l6 := rc_chg hR2
  have l7 := rc_dead hR2
  have l8 := rc_blocks hR2
  have HB := Lib.hid (show Below w.heap.size w (W.alloc (.cells (tab 54 (rcF r)) 26)) from hB.alloc hB.size _)
  obtain ⟨w3, hw3⟩ : ∃ w3, W.alloc (.cells (tab 54 (rcF r)) 26) = w3 := ⟨_, rfl⟩
  rw [hw3] at HB
  have hR3 : Row w3 W.heap.size 26 54 (rcF r) := by rw [← hw3]; exact Row.new W _ 54 (rcF r)
  have HR3 := Lib.hid hR3
  have hst : (stT 26 (.pointer (some ⟨W.heap.size, 0, none⟩)) (rcV r)).run Tryd.prog W2 = .ok .skip w3 := by rw [← hW2, ← hw3]; exact storeNewM W _ _ _ r rfl
  have HE := Lib.hid hw3
  clear hR hB hB2 hR2 hR3 hw3
  obtain ⟨V, hV⟩ : ∃ V, rcV r = V := ⟨_, rfl⟩
  have hbx : (bxT 33 V).run Tryd.prog w = .ok (.value (.pointer (some ⟨w.heap.size, 0, none⟩))) W := by rw [← hV, ← hW]; exact boxP w r
  have hbd := fun u => bdM8 r.path r.size r.time r.chg r.ver r.dead r.whole r.q r.n r.cap u
  rw [show rcV ⟨r.path, r.size, r.time, r.chg, r.ver, r.dead, r.whole, r.q, r.n, r.cap⟩ = V from hV] at hbd
  rw [hV] at hst ⊢
  have HV := Lib.hid hV
  clear hV hW
  obtain ⟨p, s, t, c, f, d, wh, q, n, cap⟩ := r
  dsimp only at *
  go_enter Tryd.func10, Tryd.ntmps10
  go_wp2
  refine bodyPost_ret (resR rtM rfl _ _ W.heap.size 26 _ rfl HR3.out) rfl ?_
  exact ⟨by rw [HV.out], HB.out⟩
theorem stamp_frozen (w : World) (s t c : Int) : (w.alloc (.cells #[.int .i64 s, .int .i64 t, .int .i64 c] 30)).frozen? ⟨w.heap.size, 0, none⟩ = false := by go_simp
/-- The record of what is gone. -/
def gnR (p : S8) (t c : Int) (f : Nat → Int) : Rc := if rfE p 0 t c f = 0 then ⟨p, 0, t, c, f, true, z32, none, 0, 0⟩ else rc0
set_option maxRecDepth 100000 in
set_option maxHeartbeats 4000000 in
theorem gone_any (p : S8) (hp : p.length < 100000) (s t c : Int) (f : Nat → Int) (w : World) :
    Calls Tryd.prog 7 #[.string (mkS p), stV s t c, vcV f] w fun e w' => e = .returned (.tuple #[rcV (gnR p t c f), .int .i64 (rfE p 0 t c f)]) ∧ Below w.heap.size w w' := by
  have HF := Lib.hid (fun u => refusal_any p hp 0 t c f u)
  obtain ⟨W1, hW1⟩ : ∃ W1, w.alloc (.cells #[.int .i64 s, .int .i64 t, .int .i64 c] 30) = W1 := ⟨_, rfl⟩
  obtain ⟨W2, hW2⟩ : ∃ W2, W1.alloc (.cells (tab 16 (vf f)) 31) = W2 := ⟨_, rfl⟩
  obtain ⟨W3, hW3⟩ : ∃ W3, W2.alloc (.cells (tab 54 (rcF rc0)) 33) = W3 := ⟨_, rfl⟩
  obtain ⟨W4, hW4⟩ : ∃ W4, W3.setCell ⟨w.heap.size, 0, none⟩ (.int .i64 0) = W4 := ⟨_, rfl⟩
  have hS1 : StAt W1 w.heap.size 0 s t c := by rw [← hW1]; exact stamp_new w s t c
  have f1 : W1.frozen? ⟨w.heap.size, 0, none⟩ = false := by rw [← hW1]; exact stamp_frozen w s t c
  have hB1 : Below w.heap.size w W1 := by rw [← hW1]; exact (Below.refl _ _).alloc (Nat.le_refl _) _
  have hB2 : Below W1.heap.size W1 W2 := by rw [← hW2]; exact (Below.refl _ _).alloc (Nat.le_refl _) _
  have hB3 : Below W2.heap.size W2 W3 := by rw [← hW3]; exact (Below.refl _ _).alloc (Nat.le_refl _) _
  have z1 : W1.heap.size = w.heap.size + 1 := by rw [← hW1]; simp
  have z2 : W2.heap.size = w.heap.size + 2 := by rw [← hW2]; simp [z1]
  have hB13 : Below W1.heap.size W1 W3 := hB2.trans (hB3.mono hB2.size)
  have hlt : w.heap.size < W1.heap.size := by omega
  have hS3 := hS1.of_below hB13
  have f3 : W3.frozen? ⟨w.heap.size, 0, none⟩ = false := by rw [hB13.frozen (by exact hlt)]; exact f1
  have hR2 : Row W2 W1.heap.size 31 16 (vf f) := by rw [← hW2]; exact Row.new W1 _ 16 (vf f)
  have hR3 : Row W3 W2.heap.size 33 54 (rcF rc0) := by rw [← hW3]; exact Row.new W2 _ 54 _
  have hk4 : Kp w.heap.size W3 W4 := by rw [← hW4]; exact (Kp.refl _ _).setCell 0 _
  have hR2' : Row W4 W1.heap.size 31 16 (vf f) := by
    have := hR2.of_below hB3
    unfold Row at this ⊢
    rw [hk4.block _ (by have := hB3.size; omega) (by omega)]; exact this
  have hR3' : Row W4 W2.heap.size 33 54 (rcF rc0) := by
    unfold Row at hR3 ⊢
    rw [hk4.block _ (by have := (Array.getElem?_eq_some_iff.1 hR3).1; exact this) (by omega)]; exact hR3
  have hS4 : StAt W4 w.heap.size 0 0 t c := by
    refine ⟨by rw [← hW4]; exact World.cell?_setCell_same _ _ _ hS3.1, ?_, ?_⟩
    · rw [← hW4]
      refine Eq.trans ?_ hS3.2.1
      apply World.cell?_setCell_other
      intro h
      injection h with _ h _
      omega
    · rw [← hW4]
      refine Eq.trans ?_ hS3.2.2
      apply World.cell?_setCell_other
      intro h
      injection h with _ h _
      omega
  have hB4 : Below w.heap.size w W4 := (hB1.trans (hB13.mono hB1.size)).trans (hk4.below (Nat.le_refl _) (by have := hB13.size; omega))
  have c3 := hS3.1
  have HL1 := Lib.hid (fun (u : World) (hu : Below W4.heap.size W4 u) => (⟨ld_stamp (hS4.of_below hu), loadVT vtV (VecAt.of_row (hR2'.of_below hu) (Nat.le_refl _))⟩ : _ ∧ _))
  have HR := Lib.hid (fun (u : World) (hu : Below W4.heap.size W4 u) (r : Rc) => (show ∃ u', (stT 33 (.pointer (some ⟨W2.heap.size, 0, none⟩)) (rcV r)).run Tryd.prog u = .ok .skip u' ∧ Row u' W2.heap.size 33 54 (rcF r) ∧ Below w.heap.size w u' from by
    obtain ⟨u', h1, h2, h3⟩ := storeRT rtP (hR3'.of_below hu) r
    exact ⟨u', h1, h2, (hB4.trans (hu.mono hB4.size)).trans (h3.below (by omega) (by have := hu.size; have := hB4.size; omega))⟩))
  have HB := Lib.hid hB4
  have HX := Lib.hid (show ∀ X, rfE p 0 t c f = X → gnR p t c f = if X = 0 then ⟨p, 0, t, c, f, true, z32, none, 0, 0⟩ else rc0 from fun X h => by unfold gnR; rw [h])
  clear hS1 f1 hB1 hB2 hB3 z1 z2 hB13 hlt hS3 hR2 hR3 hk4 hR2' hR3' hS4 hB4
  obtain ⟨X, hX⟩ : ∃ X, rfE p 0 t c f = X := ⟨_, rfl⟩
  have hXX := HX.out X hX
  rw [hX] at HF ⊢
  clear hX HX
  obtain ⟨R, hR⟩ : ∃ R, gnR p t c f = R := ⟨_, rfl⟩
  rw [hR] at hXX ⊢
  have HXX := Lib.hid hXX
  clear hR hXX
  obtain ⟨l1, l2⟩ := HL1.out W4 (Below.refl _ _)
  go_enter Tryd.func7, Tryd.ntmps7
  go_wp2_with fail
  clear hW1 hW2 hW3 hW4 f3 c3 l1 l2
  refine (HF.out _).mono ?_
  rintro e u ⟨rfl, hB⟩
  by_cases hx : X = 0
  · have HRX := Lib.hid (HXX.out.trans (if_pos hx))
    subst hx
    obtain ⟨l1, l2⟩ := HL1.out u hB
    obtain ⟨u', hs, hRow, hBel⟩ := HR.out u hB R
    have HRow := Lib.hid hRow
    have HBel := Lib.hid hBel
    have hbd := bdP4 p 0 t c f false [] none 0 0 u
    rw [← HRX.out] at hbd
    clear hRow hBel hB
    go_wp2
    refine bodyPost_ret (resR2 rtP rfl _ u' W2.heap.size 33 R (.int .i64 0) rfl rfl HRow.out) rfl ?_
    exact ⟨rfl, HBel.out⟩
  · have HRX := Lib.hid (HXX.out.trans (if_neg hx))
    obtain ⟨u', hs, hRow, hBel⟩ := HR.out u hB R
    have HRow := Lib.hid hRow
    have HBel := Lib.hid hBel
    have hbd := bdP0 u
    rw [← HRX.out] at hbd
    have dx : decide (X = 0) = false := decide_eq_false hx
    clear hRow hBel hB
    go_wp2
    refine bodyPost_ret (resR2 rtP rfl _ u' W2.heap.size 33 R (.int .i64 X) rfl rfl HRow.out) rfl ?_
    exact ⟨rfl, HBel.out⟩
end Go.Proofs.YtfemgkamgokjcaaDoor
/- record.Of. -/
set_option maxRecDepth 100000
namespace Go.Proofs.YtfemgkamgokjcaaDoor
open Go Go.RowKit

attribute [-go_sem] Sha.exec_store
attribute [local go_sem ↓] exec_boxA exec_loadA exec_indexA exec_allocA exec_storeA exec_buildA exec_eqlA exec_neqA exec_boxV exec_loadV exec_indexV exec_allocV exec_storeV exec_buildV exec_eqlV exec_neqV
attribute [local go_sem] boxA indexA storeNewA buildA eqlA neqA boxV indexV storeNewV buildV eqlV neqV
attribute [local go_sem ↓] exec_loadS exec_boxS exec_boxP exec_boxM exec_allocP exec_allocM exec_storeP exec_storeM exec_buildP exec_buildM exec_buildS exec_load32 exec_build32 exec_eqlD exec_neqD
attribute [local go_sem] box_stamp boxP boxM storeNewP storeNewM bd32 eqlD neqD bdM0 bdP0 bdS3 bdM8 bdM5 bdP6 bdP4

theorem bsSl (q : Option Addr) (n cap : Nat) (w : World) : (bsT 52 1 #[(0, .slice q n cap)]).run Tryd.prog w = .ok (.value (.slice (some ⟨w.heap.size, 0, none⟩) 1 1)) (w.alloc (.cells #[.slice q n cap] 27)) := by kernel_rfl
attribute [local go_sem] bsSl
attribute [local go_sem ↓] exec_bs
/-- What the record of bytes is. -/
def OfPost (w' : World) (p : S8) (l : By) (t c : Int) (f : Nat → Int) (X : Int) (r : Rc) : Prop :=
  if X = 0 then r.path = p ∧ r.size = (l.length : Int) ∧ r.time = t ∧ r.chg = c ∧ r.ver = f ∧ r.dead = false ∧ r.whole = digL l ∧ ∃ ds, ds = digs l ∧ DgAt w' r ds else r = rc0
set_option maxRecDepth 100000 in
set_option maxHeartbeats 4000000 in
theorem of10_any (p : S8) (hp : p.length < 100000) (l : By) (q : Option Addr) (n cap : Nat) (s t c : Int) (f : Nat → Int) (w : World) (hl : l.length = n) (hsl : Sl w q l) (hc : n ≤ cap) (hn : n < 1000000) (hT : Tb w) :
    Calls Tryd.prog 6 #[.string (mkS p), .slice q n cap, stV s t c, vcV f] w fun e w' => ∃ r, e = .returned (.tuple #[rcV r, .int .i64 (rfE p (n : Int) t c f)]) ∧ Below w.heap.size w w' ∧ OfPost w' p l t c f (rfE p (n : Int) t c f) r := by
  have HF := Lib.hid (fun u => refusal_any p hp (n : Int) t c f u)
  obtain ⟨W1, hW1⟩ : ∃ W1, w.alloc (.cells #[.int .i64 s, .int .i64 t, .int .i64 c] 30) = W1 := ⟨_, rfl⟩
  obtain ⟨W2, hW2⟩ : ∃ W2, W1.alloc (.cells (tab 16 (vf f)) 31) = W2 := ⟨_, rfl⟩
  obtain ⟨W3, hW3⟩ : ∃ W3, W2.alloc (.cells (tab 54 (rcF rc0)) 33) = W3 := ⟨_, rfl⟩
  obtain ⟨W4, hW4⟩ : ∃ W4, W3.setCell ⟨w.heap.size, 0, none⟩ (.int .i64 (n : Int)) = W4 := ⟨_, rfl⟩
  have hS1 : StAt W1 w.heap.size 0 s t c := by rw [← hW1]; exact stamp_new w s t c
  have f1 : W1.frozen? ⟨w.heap.size, 0, none⟩ = false := by rw [← hW1]; exact stamp_frozen w s t c
  have hB1 : Below w.heap.size w W1 := by rw [← hW1]; exact (Below.refl _ _).alloc (Nat.le_refl _) _
  have hB2 : Below W1.heap.size W1 W2 := by rw [← hW2]; exact (Below.refl _ _).alloc (Nat.le_refl _) _
  have hB3 : Below W2.heap.size W2 W3 := by rw [← hW3]; exact (Below.refl _ _).alloc (Nat.le_refl _) _
  have z1 : W1.heap.size = w.heap.size + 1 := by rw [← hW1]; simp
  have z2 : W2.heap.size = w.heap.size + 2 := by rw [← hW2]; simp [z1]
  have hB13 : Below W1.heap.size W1 W3 := hB2.trans (hB3.mono hB2.size)
  have hlt : w.heap.size < W1.heap.size := by omega
  have hS3 := hS1.of_below hB13
  have f3 : W3.frozen? ⟨w.heap.size, 0, none⟩ = false := by rw [hB13.frozen (by exact hlt)]; exact f1
  have hR2 : Row W2 W1.heap.size 31 16 (vf f) := by rw [← hW2]; exact Row.new W1 _ 16 (vf f)
  have hR3 : Row W3 W2.heap.size 33 54 (rcF rc0) := by rw [← hW3]; exact Row.new W2 _ 54 _
  have hk4 : Kp w.heap.size W3 W4 := by rw [← hW4]; exact (Kp.refl _ _).setCell 0 _
  have hR2' : Row W4 W1.heap.size 31 16 (vf f) := by
    have := hR2.of_below hB3
    unfold Row at this ⊢
    rw [hk4.block _ (by have := hB3.size; omega) (by omega)]; exact this
  have hR3' : Row W4 W2.heap.size 33 54 (rcF rc0) := by
    unfold Row at hR3 ⊢
    rw [hk4.block _ (by have := (Array.getElem?_eq_some_iff.1 hR3).1; exact this) (by omega)]; exact hR3
  have hS4 : StAt W4 w.heap.size 0 (n : Int) t c := by
    refine ⟨by rw [← hW4]; exact World.cell?_setCell_same _ _ _ hS3.1, ?_, ?_⟩
    · rw [← hW4]
      refine Eq.trans ?_ hS3.2.1
      apply World.cell?_setCell_other
      intro h
      injection h with _ h _
      omega
    · rw [← hW4]
      refine Eq.trans ?_ hS3.2.2
      apply World.cell?_setCell_other
      intro h
      injection h with _ h _
      omega
  have hB4 : Below w.heap.size w W4 := (hB1.trans (hB13.mono hB1.size)).trans (hk4.below (Nat.le_refl _) (by have := hB13.size; omega))
  have z3 : W3.heap.size = w.heap.size + 3 := by rw [← hW3]; simp [z2]
  have z4 : W4.heap.size = w.heap.size + 3 := by rw [← hW4]; simp [z3]
  have c3 := hS3.1
  have HL1 := Lib.hid (fun (u : World) (hu : Below W4.heap.size W4 u) => (⟨ld_stamp (hS4.of_below hu), loadVT vtV (VecAt.of_row (hR2'.of_below hu) (Nat.le_refl _))⟩ : _ ∧ _))
  have HS := Lib.hid (fun (u : World) (hu : Below W4.heap.size W4 u) => (show _ ∧ _ ∧ _ from ⟨ld_stamp (hS4.of_below hu), loadVT vtV (VecAt.of_row (hR2'.of_below hu) (Nat.le_refl _)), hB4.trans (hu.mono hB4.size)⟩))
  have HR := Lib.hid (fun (u : World) (hu : Below W4.heap.size W4 u) (r : Rc) => (show ∃ u', (stT 33 (.pointer (some ⟨W2.heap.size, 0, none⟩)) (rcV r)).run Tryd.prog u = .ok .skip u' ∧ Row u' W2.heap.size 33 54 (rcF r) ∧ Below w.heap.size w u' ∧ (ldT 30 (.pointer (some ⟨w.heap.size, 0, none⟩))).run Tryd.prog u' = .ok (.value (stV (n : Int) t c)) u' ∧ (ldT 31 (.pointer (some ⟨W1.heap.size, 0, none⟩))).run Tryd.prog u' = .ok (.value (vcV f)) u' from by
    obtain ⟨u', h1, h2, h3⟩ := storeRT rtP (hR3'.of_below hu) r
    have hsz : W4.heap.size ≤ u.heap.size := hu.size
    refine ⟨u', h1, h2, (hB4.trans (hu.mono hB4.size)).trans (h3.below (by omega) (by omega)), ld_stamp ?_, loadVT vtV (VecAt.of_row (T := 31) ?_ (Nat.le_refl _))⟩
    · have := hS4.of_below hu
      have hb : u'.heap[w.heap.size]? = u.heap[w.heap.size]? := h3.block _ (by omega) (by omega)
      exact ⟨by rw [World.cell?_of_block (w := u) hb]; exact this.1, by rw [World.cell?_of_block (w := u) hb]; exact this.2.1, by rw [World.cell?_of_block (w := u) hb]; exact this.2.2⟩
    · have := hR2'.of_below hu
      unfold Row at this ⊢
      rw [h3.block _ (by omega) (by omega)]; exact this))
  have HBK := Lib.hid (fun (u u' : World) (r : Rc) (hu : Below W4.heap.size W4 u) (hs : (stT 33 (.pointer (some ⟨W2.heap.size, 0, none⟩)) (rcV r)).run Tryd.prog u = .ok .skip u') (g : Nat) (h3 : W4.heap.size ≤ g) (h2 : g < u.heap.size) => (show u'.heap[g]? = u.heap[g]? from by
    obtain ⟨u2, k1, k2, k3⟩ := storeRT rtP (hR3'.of_below hu) r
    rw [hs] at k1
    injection k1 with _ k1
    rw [k1]
    exact k3.block g h2 (by omega)))
  have HSM := Lib.hid (fun (b : Nat) (u : World) (hu : Below W4.heap.size W4 u) (hc4 : u.cell? ⟨b, 0, none⟩ = some (.slice q n cap)) => sum1_any l b 0 q n cap u hl hc4 (hsl.of_below (hB4.trans (hu.mono hB4.size))) (hT.on (hB4.trans (hu.mono hB4.size))) (by omega))
  have HDG := Lib.hid (fun (u : World) (hu : Below W4.heap.size W4 u) => (digests_any l q n cap u hl (hsl.of_below (hB4.trans (hu.mono hB4.size))) hc hn (hT.on (hB4.trans (hu.mono hB4.size)))).mono fun (e : Ending) (w' : World) ⟨v, h1, h2, h3⟩ => (⟨v, h1, by rw [← digs_flat l n hl]; exact h2, h3⟩ : ∃ v, e = Ending.returned v ∧ w'.ownsRow u.heap.size 23 32 v (nblk n) ((digs l).flatMap digC) ∧ Below u.heap.size u w'))
  obtain ⟨nb, hnb⟩ : ∃ nb, nblk n = nb := ⟨_, rfl⟩
  have HNB := Lib.hid (show nb = (digs l).length from by rw [digs_len, hl, hnb])
  rw [hnb] at HDG
  have HLL := Lib.hid hl
  have HB := Lib.hid hB4
  clear hS1 f1 hB1 hB2 hB3 z1 z2 z3 z4 hB13 hlt hS3 hR2 hR3 hk4 hR2' hR3' hS4 hB4 hnb hl hsl hT
  obtain ⟨X, hX⟩ : ∃ X, rfE p (n : Int) t c f = X := ⟨_, rfl⟩
  rw [hX] at HF ⊢
  clear hX
  obtain ⟨l1, l2⟩ := HL1.out W4 (Below.refl _ _)
  go_enter Tryd.func6, Tryd.ntmps6
  go_wp2_with fail
  clear hW1 hW2 hW3 hW4 f3 c3 l1 l2
  refine (HF.out _).mono ?_
  rintro e u ⟨rfl, hB⟩
  by_cases hx : X = 0
  · subst hx
    go_wp2
    refine wp_region_noPanic ?_
    refine wp_region_held_drew (S := (fun u : World => (ldT 30 (.pointer (some ⟨w.heap.size, 0, none⟩))).run Tryd.prog u = .ok (.value (stV (n : Int) t c)) u ∧ (ldT 31 (.pointer (some ⟨W1.heap.size, 0, none⟩))).run Tryd.prog u = .ok (.value (vcV f)) u ∧ Below w.heap.size w u)) (by kernel_rfl) (HS.out _ (hB.drew)) (fun hHeld => ?_)
    have HX := Lib.hid (show Below W4.heap.size W4 u.drew from hB.drew)
    generalize u.drew = x at hHeld HX ⊢
    refine wpAnyH_take (i := 0) (v := ?_) (by simp only [List.getElem?_toArray, List.getElem?_cons_succ, List.getElem?_cons_zero]; exact rfl) (by kernel_rfl) (by kernel_rfl) (by kernel_rfl) (fun _ _ _ h => h) (Or.inl ⟨by rfl, ?_⟩) (by assumption) ?_
    rotate_left 1
    · (intro w hSw; (try dsimp only at hSw); go_simp; try with_reducible rfl)
    try simp only [Act.put, List.setIfInBounds_toArray, List.set_cons_zero, List.set_cons_succ]
    refine wpAnyH_take (i := 1) (v := ?_) (by simp only [List.getElem?_toArray, List.getElem?_cons_succ, List.getElem?_cons_zero]; exact rfl) (by kernel_rfl) (by kernel_rfl) (by kernel_rfl) (fun _ _ _ h => h) (Or.inl ⟨by rfl, ?_⟩) (by assumption) ?_
    rotate_left 1
    · (intro w hSw; (try dsimp only at hSw); go_simp; try with_reducible rfl)
    try simp only [Act.put, List.setIfInBounds_toArray, List.set_cons_zero, List.set_cons_succ]
    refine wpAnyH_take (i := 2) (v := ?_) (by simp only [List.getElem?_toArray, List.getElem?_cons_succ, List.getElem?_cons_zero]; exact rfl) (by kernel_rfl) (by kernel_rfl) (by kernel_rfl) (fun _ _ _ h => h) (Or.inl ⟨by rfl, ?_⟩) (by assumption) ?_
    rotate_left 1
    · (intro w hSw; (try dsimp only at hSw); go_simp; try with_reducible rfl)
    try simp only [Act.put, List.setIfInBounds_toArray, List.set_cons_zero, List.set_cons_succ]
    refine wpAnyH_take (i := 3) (v := ?_) (by simp only [List.getElem?_toArray, List.getElem?_cons_succ, List.getElem?_cons_zero]; exact rfl) (by kernel_rfl) (by kernel_rfl) (by kernel_rfl) (fun _ _ _ h => h) (Or.inl ⟨by rfl, ?_⟩) (by assumption) ?_
    rotate_left 1
    · (intro w hSw; (try dsimp only at hSw); go_simp; try with_reducible rfl)
    try simp only [Act.put, List.setIfInBounds_toArray, List.set_cons_zero, List.set_cons_succ]
    refine wpAnyH_take (i := 6) (v := ?_) (by simp only [List.getElem?_toArray, List.getElem?_cons_succ, List.getElem?_cons_zero]; exact rfl) (by kernel_rfl) (by kernel_rfl) (by kernel_rfl) (fun _ _ _ h => h) (Or.inl ⟨by rfl, ?_⟩) (by assumption) ?_
    rotate_left 1
    · (intro w hSw; (try dsimp only at hSw); go_simp; try with_reducible rfl)
    try simp only [Act.put, List.setIfInBounds_toArray, List.set_cons_zero, List.set_cons_succ]
    refine wpAnyH_ready (rs := [4]) (by kernel_rfl) (by simp) ?_
    refine (AllReadyH.cons (by simp only [List.getElem?_toArray, List.getElem?_cons_succ, List.getElem?_cons_zero]; exact rfl) (fun K hK => ?_) AllReadyH.nil)
    go_simp
    obtain ⟨x4, hy⟩ : ∃ y, (x.alloc (.cells #[.slice q n cap] 27)) = y := ⟨_, rfl⟩
    have hBa : Below x.heap.size x x4 := by rw [← hy]; exact below_newD _ _
    have hC := (show x4.cell? ⟨x.heap.size, 0, none⟩ = some (.slice q n cap) from by rw [← hy]; exact World.cell?_alloc_new _ _ _ _)
    obtain ⟨b4, hb4⟩ : ∃ b4, x.heap.size = b4 := ⟨_, rfl⟩
    rw [hy, hb4]
    rw [hb4] at hC
    have HC := Lib.hid hC
    have HX := Lib.hid (HX.out.trans (hBa.mono HX.out.size))
    clear hy hBa hC hb4
    refine hK.out _ _ (HS.out _ HX.out) (fun hHeld => ?_)
    clear hK K
    try simp only [Act.put, List.setIfInBounds_toArray, List.set_cons_zero, List.set_cons_succ]
    refine wpAnyH_ready (rs := [5]) (by kernel_rfl) (by simp) ?_
    refine (AllReadyH.cons (by simp only [List.getElem?_toArray, List.getElem?_cons_succ, List.getElem?_cons_zero]; exact rfl) (fun K hK => ?_) AllReadyH.nil)
    go_simp
    refine (HSM.out b4 x4 HX.out HC.out).mono ?_
    rintro e x45 ⟨rfl, hb5⟩
    go_wp2_with fail
    have HX := Lib.hid (HX.out.trans (hb5.mono HX.out.size))
    have HC := Lib.hid (show x45.cell? ⟨b4, 0, none⟩ = some (.slice q n cap) from by rw [hb5.cell (by exact World.block_lt_of_cell? x4 _ HC.out)]; exact HC.out)
    clear hb5
    refine hK.out _ _ (HS.out _ HX.out) (fun hHeld => ?_)
    clear hK K
    try simp only [Act.put, List.setIfInBounds_toArray, List.set_cons_zero, List.set_cons_succ]
    refine wpAnyH_ready (rs := [7]) (by kernel_rfl) (by simp) ?_
    refine (AllReadyH.cons (by simp only [List.getElem?_toArray, List.getElem?_cons_succ, List.getElem?_cons_zero]; exact rfl) (fun K hK => ?_) AllReadyH.nil)
    go_simp
    refine (HDG.out x45 HX.out).mono ?_
    rintro e x457 ⟨v7, rfl, hO, hb7⟩
    have hO := own_lower hO (b2 := W4.heap.size) HX.out.size
    have hO2 := hO
    obtain ⟨q7, c7, rfl, -, -⟩ := dg_own hO2 (HNB.out) (digs_each l)
    rw [← HNB.out]
    have HO := Lib.hid hO
    have HX := Lib.hid (HX.out.trans (hb7.mono HX.out.size))
    have HC := Lib.hid (show x457.cell? ⟨b4, 0, none⟩ = some (.slice q n cap) from by rw [hb7.cell (by exact World.block_lt_of_cell? x45 _ HC.out)]; exact HC.out)
    clear hO hO2 hb7
    obtain ⟨RV, hRV⟩ : ∃ RV : Rc, ⟨p, (n : Int), t, c, f, false, digL l, q7, nb, c7⟩ = RV := ⟨_, rfl⟩
    have hbd := fun u => bdP5 p (n : Int) t c f false (digL l) q7 nb c7 u
    rw [hRV] at hbd
    have HRV := Lib.hid hRV
    clear hRV
    go_wp2_with fail
    refine hK.out _ _ (HS.out _ HX.out) (fun hHeld => ?_)
    clear hK K
    try simp only [Act.put, List.setIfInBounds_toArray, List.set_cons_zero, List.set_cons_succ]
    refine wpAnyH_take (i := 8) (v := ?_) (by simp only [List.getElem?_toArray, List.getElem?_cons_succ, List.getElem?_cons_zero]; exact rfl) (by kernel_rfl) (by kernel_rfl) (by kernel_rfl) (fun _ _ _ h => h) (Or.inl ⟨by rfl, ?_⟩) (by assumption) ?_
    rotate_left 1
    · (intro w hSw; (try dsimp only at hSw); go_simp; try with_reducible rfl)
    try simp only [Act.put, List.setIfInBounds_toArray, List.set_cons_zero, List.set_cons_succ]
    refine wpAnyH_ready (rs := [9]) (by kernel_rfl) (by simp) ?_
    refine (AllReadyH.cons (by simp only [List.getElem?_toArray, List.getElem?_cons_succ, List.getElem?_cons_zero]; exact rfl) (fun K hK => ?_) AllReadyH.nil)
    obtain ⟨u', hs, hRow, hBel, hl1, hl2⟩ := HR.out x457 HX.out RV
    have HRow := Lib.hid hRow
    have HBel := Lib.hid hBel
    have HO2 := Lib.hid (own_keep HO.out (fun g hg => HBK.out x457 u' RV HX.out hs g (HO.out.lt g hg).1 (HO.out.lt g hg).2))
    clear hRow hBel
    go_simp
    refine hK.out _ _ ⟨hl1, hl2, HBel.out⟩ (fun hHeld => ?_)
    clear hK K
    try simp only [Act.put, List.setIfInBounds_toArray, List.set_cons_zero, List.set_cons_succ]
    refine wpAnyH_take (i := 10) (v := ?_) (by simp only [List.getElem?_toArray, List.getElem?_cons_succ, List.getElem?_cons_zero]; exact rfl) (by kernel_rfl) (by kernel_rfl) (by kernel_rfl) (fun _ _ _ h => h) (Or.inl ⟨by rfl, ?_⟩) (by assumption) ?_
    rotate_left 1
    · (intro w hSw; (try dsimp only at hSw); go_simp; try with_reducible rfl)
    try simp only [Act.put, List.setIfInBounds_toArray, List.set_cons_zero, List.set_cons_succ]
    refine wpAnyH_done (by kernel_rfl) ?_ _
    refine NoPanic.normal ?_
    go_wp2
    refine bodyPost_ret (resR2 rtP rfl _ u' W2.heap.size 33 RV (.int .i64 0) rfl rfl HRow.out) rfl ?_
    obtain ⟨q8, c8, e8, -, hdg⟩ := dg_own HO2.out HNB.out (digs_each l)
    injection e8 with e8 e9 e10
    subst e8 e10
    have hNB := HNB.out
    refine ⟨RV, rfl, HBel.out, ?_⟩
    rw [← HRV.out]
    unfold OfPost
    rw [if_pos rfl]
    exact ⟨rfl, by rw [HLL.out], rfl, rfl, rfl, rfl, rfl, digs l, rfl, hdg _ rfl (by dsimp only; exact hNB) rfl (digL_len _)⟩
  · obtain ⟨u', hs, hRow, hBel, -, -⟩ := HR.out u hB rc0
    have HRow := Lib.hid hRow
    have HBel := Lib.hid hBel
    have dx : decide (X = 0) = false := decide_eq_false hx
    have HXX := Lib.hid hx
    clear hRow hBel hB
    go_wp2
    refine bodyPost_ret (resR2 rtP rfl _ u' W2.heap.size 33 rc0 (.int .i64 X) rfl rfl HRow.out) rfl ?_
    exact ⟨rc0, rfl, HBel.out, by unfold OfPost; rw [if_neg HXX.out]⟩
end Go.Proofs.YtfemgkamgokjcaaDoor
/- The reference of layer 7: beginnings. -/
set_option maxRecDepth 100000
namespace Go.Proofs.YtfemgkamgokjcaaDoor
open Go Go.RowKit
attribute [-go_sem] Sha.exec_store

set_option maxHeartbeats 1000000 in
theorem refStarts_any (s t : S8) (hs : s.length < 1000000) (ht : t.length < 1000000) (w : World) : Calls Tryd.prog 51 #[.string (mkS s), .string (mkS t)] w fun e w' => e = .returned (.bool (startsL s t)) ∧ w = w' := by
  by_cases h : t.length ≤ s.length
  · have h1 : (t.length : Int) ≤ (s.length : Int) := by omega
    have h2 : decide ((t.length : Int) ≤ (s.length : Int)) = true := decide_eq_true h1
    have HS := Lib.hid (show startsL s t = (s.take t.length == t) from by unfold startsL; rw [decide_eq_true h]; rfl)
    go_enter Tryd.func51, Tryd.ntmps51
    go_wp2
    go_ret
    exact ⟨by rw [HS.out]; rfl, rfl⟩
  · have h1 : ¬ (t.length : Int) ≤ (s.length : Int) := by omega
    have h2 : decide ((t.length : Int) ≤ (s.length : Int)) = false := decide_eq_false h1
    have HS := Lib.hid (show startsL s t = false from by unfold startsL; rw [decide_eq_false h]; rfl)
    go_enter Tryd.func51, Tryd.ntmps51
    go_wp2
    go_ret
    exact ⟨by rw [HS.out]; rfl, rfl⟩
end Go.Proofs.YtfemgkamgokjcaaDoor
/- The reference's kinds. -/
set_option maxRecDepth 100000
namespace Go.Proofs.YtfemgkamgokjcaaDoor
open Go Go.RowKit
attribute [-go_sem] Sha.exec_store

set_option maxHeartbeats 1000000 in
theorem refKind_any (l : S8) (hl : l.length < 100000) (w : World) : Calls Tryd.prog 26 #[.string (mkS l)] w fun e w' => Gives (.int .i64 (kindL l : Int)) w e w' := by
  obtain ⟨X, hX⟩ : ∃ X, kindL l = X := ⟨_, rfl⟩
  rw [hX]
  have HX := Lib.hid (hX.symm.trans (show kindL l = if goodL l then (if startsL (baseL l) tmpS then 1 else if startsL (baseL l) parS then 2 else 3) else 0 from rfl))
  clear hX
  have HG := Lib.hid (fun u => refGood_any l (by omega) u)
  have HS := Lib.hid (fun u => refSlash_any l (by omega) u)
  have hkl := kL_le l
  have hbl : (l.drop (kL l)).length < 1000000 := by rw [List.length_drop]; omega
  have HT := Lib.hid (fun u => refStarts_any (l.drop (kL l)) tmpS hbl (by decide) u)
  have HP := Lib.hid (fun u => refStarts_any (l.drop (kL l)) parS hbl (by decide) u)
  rw [show mkS tmpS = ⟨#[46, 116, 109, 112, 126]⟩ from (mkS_lit tmpS).symm] at HT
  rw [show mkS parS = ⟨#[46, 112, 97, 114, 126]⟩ from (mkS_lit parS).symm] at HP
  have HX2 := Lib.hid (HX.out.trans (show _ = if goodL l then (if startsL (l.drop (kL l)) tmpS then 1 else if startsL (l.drop (kL l)) parS then 2 else 3) else 0 from rfl))
  clear HX hbl
  generalize goodL l = g at *
  generalize startsL (l.drop (kL l)) tmpS = b1 at *
  generalize startsL (l.drop (kL l)) parS = b2 at *
  generalize kL l = k at *
  have k1 : IntKind.i64.wrap (k : Int) = (k : Int) := by rw [IntKind.wrap_i64]; omega
  have k2 : wrap64 (k : Int) = (k : Int) := by unfold wrap64; omega
  have k3 : (k : Int) - 1 + 1 = (k : Int) := by omega
  go_enter Tryd.func26, Tryd.ntmps26
  go_wp2_with fail
  refine (HG.out _).mono ?_
  rintro e w' ⟨rfl, rfl⟩
  cases g with
  | false =>
    obtain rfl : X = 0 := by rw [HX2.out]; rfl
    go_wp2
    go_ret
    exact ⟨rfl, Below.refl _ _⟩
  | true =>
    go_wp2_with fail
    refine (HS.out _).mono ?_
    rintro e w' ⟨rfl, rfl⟩
    go_wp2_with fail
    refine (HT.out _).mono ?_
    rintro e w' ⟨rfl, rfl⟩
    cases b1 with
    | true =>
      obtain rfl : X = 1 := by rw [HX2.out]; rfl
      go_wp2
      go_ret
      exact ⟨rfl, Below.refl _ _⟩
    | false =>
      go_wp2_with fail
      refine (HP.out _).mono ?_
      rintro e w' ⟨rfl, rfl⟩
      cases b2 with
      | true =>
        obtain rfl : X = 2 := by rw [HX2.out]; rfl
        go_wp2
        go_ret
        exact ⟨rfl, Below.refl _ _⟩
      | false =>
        obtain rfl : X = 3 := by rw [HX2.out]; rfl
        go_wp2
        go_ret
        exact ⟨rfl, Below.refl _ _⟩
end Go.Proofs.YtfemgkamgokjcaaDoor
/- Which records are good: the reference. -/
set_option maxRecDepth 100000
namespace Go.Proofs.YtfemgkamgokjcaaDoor
open Go Go.RowKit

attribute [-go_sem] Sha.exec_store
attribute [local go_sem ↓] exec_boxA exec_loadA exec_indexA exec_allocA exec_storeA exec_buildA exec_eqlA exec_neqA exec_boxV exec_loadV exec_indexV exec_allocV exec_storeV exec_buildV exec_eqlV exec_neqV
attribute [local go_sem] boxA indexA storeNewA buildA eqlA neqA boxV indexV storeNewV buildV eqlV neqV

attribute [local go_sem ↓] exec_boxM exec_load32 exec_build32 exec_eqlD exec_neqD
attribute [local go_sem] boxM bd32 eqlD neqD
theorem goodR_true {r : Rc} (h : kindL r.path = 3 ∧ gdV r.ver = true ∧ veq r.ver (fun _ => 0) = false ∧ 0 ≤ r.size ∧ r.size ≤ 16384 ∧ 0 ≤ r.time ∧ 0 ≤ r.chg ∧ r.n = nblk r.size.toNat) :
    goodR r = (!r.dead || (decide (r.size = 0) && deq r.whole z32)) := by
  obtain ⟨h1, h2, h3, h4, h5, h6, h7, h8⟩ := h
  unfold goodR rfE okV
  rw [if_pos h1, okS_iff.2 ⟨h4, h5, h6, h7⟩, h2, h3, decide_eq_true h8]
  simp
theorem goodR_false {r : Rc} (h : ¬ (kindL r.path = 3 ∧ gdV r.ver = true ∧ veq r.ver (fun _ => 0) = false ∧ 0 ≤ r.size ∧ r.size ≤ 16384 ∧ 0 ≤ r.time ∧ 0 ≤ r.chg ∧ r.n = nblk r.size.toNat)) : goodR r = false := by
  cases e : goodR r with
  | false => rfl
  | true =>
    exfalso
    apply h
    unfold goodR at e
    rw [Bool.and_eq_true, Bool.and_eq_true, decide_eq_true_eq, decide_eq_true_eq] at e
    obtain ⟨h1, h2, h3⟩ := rfE_zero e.1
    obtain ⟨h4, h5, h6, h7⟩ := okS_iff.1 h2
    unfold okV at h3
    rw [Bool.and_eq_true, Bool.not_eq_true'] at h3
    exact ⟨h1, h3.1, h3.2, h4, h5, h6, h7, e.2.1⟩
set_option maxRecDepth 100000 in
set_option maxHeartbeats 4000000 in
theorem refGood10_any (r : Rc) (hp : r.path.length < 100000) (hw : r.whole.length = 32) (w : World) :
    Calls Tryd.prog 19 #[rcV r] w fun e w' => e = .returned (.bool (goodR r)) ∧ Below w.heap.size w w' := by
  have HK := Lib.hid (fun u => refKind_any r.path hp u)
  have HG := Lib.hid (fun u => refGood9_any r.ver u)
  obtain ⟨W, hW⟩ : ∃ W, w.alloc (.cells (tab 54 (rcF r)) 26) = W := ⟨_, rfl⟩
  have hR : Row W w.heap.size 26 54 (rcF r) := by rw [← hW]; exact Row.new w _ 54 (rcF r)
  have HB := Lib.hid (show Below w.heap.size w W from by rw [← hW]; exact (Below.refl _ _).alloc (Nat.le_refl _) _)
  have HS := Lib.hid (fun (u : World) (hu : Below W.heap.size W u) => (show _ ∧ _ ∧ _ ∧ _ ∧ _ ∧ _ ∧ _ ∧ _ from ⟨loadVT vtA (rc_ver (hR.of_below hu)), ld_dig (rc_whole (hR.of_below hu) hw) hw, rc_path (hR.of_below hu), rc_size (hR.of_below hu), rc_time (hR.of_below hu), rc_chg (hR.of_below hu), rc_dead (hR.of_below hu), rc_blocks (hR.of_below hu)⟩))
  have HE := Lib.hid hW
  clear hW hR
  have HN := Lib.hid (@goodR_false r)
  have HY := Lib.hid (@goodR_true r)
  obtain ⟨Y, hY⟩ : ∃ Y, goodR r = Y := ⟨_, rfl⟩
  rw [hY] at HN HY ⊢
  clear hY
  obtain ⟨V, hV⟩ : ∃ V, rcV r = V := ⟨_, rfl⟩
  have HV := Lib.hid (show ∀ u : World, (bxT 26 V).run Tryd.prog u = .ok (.value (.pointer (some ⟨u.heap.size, 0, none⟩))) (u.alloc (.cells (tab 54 (rcF r)) 26)) from fun u => by rw [← hV]; exact boxM u r)
  rw [hV]
  have hV2 := HV.out w
  rw [HE.out] at hV2
  clear hV HV
  obtain ⟨p, s, t, c, f, d, wh, q, n, cap⟩ := r
  dsimp only at *
  obtain ⟨k, hk⟩ : ∃ k, kindL p = k := ⟨_, rfl⟩
  obtain ⟨g, hg⟩ : ∃ g, gdV f = g := ⟨_, rfl⟩
  obtain ⟨m, hm⟩ : ∃ m, nblk s.toNat = m := ⟨_, rfl⟩
  have HM := Lib.hid (fun (h1 : 0 ≤ s) (h2 : s ≤ 16384) => (show ((s + 255).tdiv 256 = (m : Int) ∧ (s + 255) / 256 = (m : Int)) ∧ IntKind.i64.wrap (s + 255) = s + 255 ∧ IntKind.i64.wrap (m : Int) = (m : Int) from by
    unfold nblk at hm
    have : (s + 255) / 256 = (m : Int) := by omega
    refine ⟨⟨by rw [Int.tdiv_eq_ediv_of_nonneg (by omega)]; exact this, this⟩, by rw [IntKind.wrap_i64]; omega, by rw [IntKind.wrap_i64]; omega⟩))
  rw [hk] at HK HN HY
  rw [hg] at HG HN HY
  rw [hm] at HN HY
  clear hk hg hm
  have l0 := (HS.out W (Below.refl _ _)).2.2.1
  go_enter Tryd.func19, Tryd.ntmps19
  go_wp2_with fail
  clear hV2 l0
  refine (HK.out _).mono ?_
  rintro e u ⟨rfl, hB⟩
  have HBu := Lib.hid hB
  clear hB
  by_cases h3 : k = 3
  · subst h3
    have l1 := (HS.out u HBu.out).1
    go_wp2_with fail
    clear l1
    refine (HG.out _).mono ?_
    rintro e u2 ⟨rfl, hB2⟩
    obtain ⟨l1, l2, -, l4, l5, l6, l7, l8⟩ := HS.out u2 (HBu.out.trans (hB2.mono HBu.out.size))
    have HBB := Lib.hid (HB.out.trans ((HBu.out.trans (hB2.mono HBu.out.size)).mono HB.out.size))
    clear hB2
    cases g with
    | false =>
      clear l2 l4 l5 l6 l7 l8
      go_wp2
      go_ret
      exact ⟨by rw [HN.out (fun h => by cases h.2.1)]; rfl, HBB.out⟩
    | true =>
      cases hz : veq f fun _ => 0 with
      | true =>
        rw [hz] at HN
        clear l2 l4 l5 l6 l7 l8
        go_wp2
        go_ret
        exact ⟨by rw [HN.out (fun h => by cases h.2.2.1)]; rfl, HBB.out⟩
      | false =>
        rw [hz] at HN HY
        by_cases h1 : s < 0
        · have d1 : decide (s < 0) = true := decide_eq_true h1
          have H1 := Lib.hid h1
          clear l2 l5 l6 l7 l8 h1
          go_wp2
          go_ret
          exact ⟨by rw [HN.out (fun h => by have := h.2.2.2.1; have := H1.out; omega)]; rfl, HBB.out⟩
        · have d1 : decide (s < 0) = false := decide_eq_false h1
          by_cases h2 : 16384 < s
          · have d2 : decide (16384 < s) = true := decide_eq_true h2
            have H2 := Lib.hid h2
            clear l2 l5 l6 l7 l8
            go_wp2
            go_ret
            exact ⟨by rw [HN.out (fun h => by have := h.2.2.2.2.1; have := H2.out; omega)]; rfl, HBB.out⟩
          · have d2 : decide (16384 < s) = false := decide_eq_false h2
            by_cases h4 : t < 0
            · have d4 : decide (t < 0) = true := decide_eq_true h4
              have H4 := Lib.hid h4
              clear l2 l6 l7 l8
              go_wp2
              go_ret
              exact ⟨by rw [HN.out (fun h => by have := h.2.2.2.2.2.1; have := H4.out; omega)]; rfl, HBB.out⟩
            · have d4 : decide (t < 0) = false := decide_eq_false h4
              by_cases h5 : c < 0
              · have d5 : decide (c < 0) = true := decide_eq_true h5
                have H5 := Lib.hid h5
                clear l2 l7 l8
                go_wp2
                go_ret
                exact ⟨by rw [HN.out (fun h => by have := h.2.2.2.2.2.2.1; have := H5.out; omega)]; rfl, HBB.out⟩
              · have d5 : decide (c < 0) = false := decide_eq_false h5
                obtain ⟨⟨x1, x2⟩, x3, x4⟩ := HM.out (by omega) (by omega)
                by_cases h6 : n = m
                · have d6 : decide ((n : Int) = (m : Int)) = true := decide_eq_true (by omega)
                  have HYY := Lib.hid (HY.out ⟨by trivial, by trivial, by trivial, by omega, by omega, by omega, by omega, by first | trivial | exact h6⟩)
                  subst h6
                  cases d with
                  | false =>
                    clear l2
                    go_wp2
                    go_ret
                    exact ⟨by rw [HYY.out]; rfl, HBB.out⟩
                  | true =>
                    by_cases h0 : s = 0
                    · have d0 : decide (s = 0) = true := decide_eq_true h0
                      have H0 := Lib.hid h0
                      clear h0
                      go_wp2
                      · go_ret
                        exact ⟨by rw [HYY.out, d0]; rfl, HBB.out⟩
                      all_goals exact absurd H0.out (by assumption)
                    · have d0 : decide (s = 0) = false := decide_eq_false h0
                      clear l2
                      go_wp2
                      go_ret
                      exact ⟨by rw [HYY.out, d0]; rfl, HBB.out⟩
                · have d6 : decide ((n : Int) = (m : Int)) = false := decide_eq_false (by omega)
                  have H6 := Lib.hid h6
                  have d7 : ((n : Int) != (m : Int)) = true := by rw [bne_iff_ne]; omega
                  clear l2 l7 h6
                  go_wp2
                  go_ret
                  exact ⟨by rw [HN.out (fun h => H6.out h.2.2.2.2.2.2.2)]; rfl, HBB.out⟩
  · have hk1 : ¬ (k : Int) = 3 := by omega
    have hk2 : decide ((k : Int) = 3) = false := decide_eq_false hk1
    have H3 := Lib.hid h3
    have HBB := Lib.hid (HB.out.trans (HBu.out.mono HB.out.size))
    clear h3
    go_wp2
    go_ret
    exact ⟨by rw [HN.out (fun h => H3.out h.1)]; rfl, HBB.out⟩
end Go.Proofs.YtfemgkamgokjcaaDoor
/- The reference's digests of blocks, and its record of bytes. -/
set_option maxRecDepth 100000
namespace Go.Proofs.YtfemgkamgokjcaaDoor
open Go Go.RowKit Go.Shelf

attribute [-go_sem] Sha.exec_store
section
attribute [local go_sem] bsD1
attribute [local go_sem ↓] exec_bs
set_option maxRecDepth 100000 in
set_option maxHeartbeats 4000000 in
theorem refSums_any (l : By) (q : Option Addr) (n cap : Nat) (w : World) (hl : l.length = n) (hs : Sl w q l) (hq : q = none → cap = 0) (hc : n ≤ cap) (hn : n < 1000000) (hT : Tb w) :
    Calls Tryd.prog 25 #[.slice q n cap] w fun e w' => ∃ v, e = .returned v ∧ w'.ownsRow w.heap.size 23 32 v (nblk n) ((digs l).flatMap digC) ∧ Below w.heap.size w w' := by
  have HC := Lib.hid (refCut10_any l q n cap w hl hs hq hc hn)
  have HT := Lib.hid hT
  have HL := Lib.hid hl
  have HDF := Lib.hid (digs_flat l n hl)
  clear hs hq hT hl
  go_enter Tryd.func25, Tryd.ntmps25
  go_wp2_with fail
  refine HC.out.mono ?_
  rintro e w1 ⟨v, rfl, hH, hB1⟩
  obtain ⟨hs, p1, cap1, rfl, hhl, hls, hp1, hcp, hrows, -⟩ := hH.open
  have hln : ((List.range (nblk n)).map (blkL l)).length = nblk n := by simp
  rw [hln] at hp1 hcp ⊢
  have HB1 := Lib.hid hB1
  have HR := Lib.hid (And.intro hls hrows)
  have hnb : nblk n < 100000 := by unfold nblk; omega
  clear hB1 hH hls hrows hhl
  go_wp2
  go_loopw [3, 10] (fun sv si wr => ∃ i : Nat, i ≤ nblk n ∧ si = .int .i64 (i : Int) ∧ wr.ownsRow w1.heap.size 23 32 sv i ((List.range i).flatMap fun i => digC (digL (blkL l i))) ∧ Below w1.heap.size w1 wr) (fun _ si _ => nblk n - (intOf si).toNat)
  case atStart => exact ⟨0, Nat.zero_le _, rfl, ⟨rfl, .inl ⟨rfl, rfl⟩⟩, Below.refl _ _⟩
  case round =>
    obtain ⟨i, hi, rfl, hO, hB⟩ := hrel
    have HB := Lib.hid hB
    have hBw := HB1.out.trans (hB.mono HB1.out.size)
    have HBw := Lib.hid hBw
    obtain ⟨p3, c3, hve⟩ := own_sliceR hO
    subst hve
    have HO := Lib.hid hO
    clear hO
    by_cases hlt : i < nblk n
    · have z1 : (i : Int) < (nblk n : Int) := by omega
      have z2 : decide ((i : Int) < (nblk n : Int)) = true := decide_eq_true z1
      obtain ⟨cc, oo, q2, d2, e1, hc2, hs2, hq2⟩ := (HR.out.2.of_below hB).cell (HR.out.1.of_below hB) i (by rw [hln]; exact hlt)
      subst e1
      have hgd : ((List.range (nblk n)).map (blkL l)).getD i [] = blkL l i := by simp [List.getD_eq_getElem?_getD, hlt]
      rw [hgd] at hc2 hs2
      have hbl : (blkL l i).length = blen n i := by rw [blkL_len, HL.out]
      have hb256 := blen_le n i
      have HSM := Lib.hid (refSum1_any (blkL l i) q2 (blen n i) d2 wr hbl hs2 hq2 (HT.out.on hBw) (by omega))
      rw [hbl] at hc2
      obtain ⟨mb, hmb⟩ : ∃ mb, blen n i = mb := ⟨_, rfl⟩
      rw [hmb] at HSM hc2
      have w3 : IntKind.i64.wrap ((i : Int) + 1) = (i : Int) + 1 := by rw [IntKind.wrap_i64]; omega
      have hi8 : i + 1 < 100000000 := by omega
      clear hB hBw hs2 hq2 hgd hbl hb256 hmb
      go_wp2_with fail
      refine HSM.out.mono ?_
      rintro e w5 ⟨rfl, hB5⟩
      have hb6 : Below w5.heap.size w5 (w5.alloc (.cells (tab 32 (dgF (digL (blkL l i)))) 23)) := below_newD _ _
      have HB6 := Lib.hid (hB5.trans (hb6.mono hB5.size))
      have HLS := Lib.hid (lsc_dig w5 (digL (blkL l i)) (digL_len _))
      have hsz6 : w1.heap.size ≤ (w5.alloc (.cells (tab 32 (dgF (digL (blkL l i)))) 23)).heap.size := Nat.le_trans HB.out.size HB6.out.size
      clear hB5 hb6 hc2
      go_wp2_with (first
        | (refine wpl_appendK elD _ rfl (.tmp 13) (.tmp 19) rfl w1.heap.size rfl (own_below HO.out HB6.out) _ 1 1 (digC (digL (blkL l i))) (by rw [digC_len, digL_len]) rfl HLS.out (fun h => by cases h) (digC_one _) hi8 hsz6 ?_
           rintro v7 w7 hO7 hg7 ho7
           have hB1w : Below w1.heap.size w1 w7 := HB.out.trans ((HB6.out.mono HB.out.size).grown hg7 hsz6 (fun k hk => ((own_below HO.out HB6.out).lt k hk).1))
           have HD7 := Lib.hid (And.intro hO7 hB1w)
           clear hO7 hg7 ho7 hB1w))
      go_roundw
      case rel => exact ⟨i + 1, by omega, by go_num, by rw [List.range_succ, List.flatMap_append]; simpa using HD7.out.1, HD7.out.2⟩
      case measure => simp [intOf]; omega
    · have z1 : ¬ (i : Int) < (nblk n : Int) := by omega
      have z2 : decide ((i : Int) < (nblk n : Int)) = false := decide_eq_false z1
      obtain rfl : i = nblk n := by omega
      clear hB hBw
      go_wp2
      go_ret
      exact ⟨_, rfl, by rw [← HDF.out]; exact own_lower HO.out HB1.out.size, HBw.out⟩
end
end Go.Proofs.YtfemgkamgokjcaaDoor
/- The reference's record of bytes, and of a deleted file. -/
set_option maxRecDepth 100000
namespace Go.Proofs.YtfemgkamgokjcaaDoor
open Go Go.RowKit Go.Shelf

attribute [-go_sem] Sha.exec_store
theorem exec_loadM (r : Operand → Value) (dst : Option Tmp) (p : Operand) (ty : TypeId) (pos : String) (after : Array Edge) (guard : Option (Nat × Bool)) :
    execOp r ⟨dst, .load 26 p, ty, pos, after, guard⟩ = ldT 26 (r p) := rfl
theorem exec_store32F (r : Operand → Value) (dst : Option Tmp) (p v : Operand) (ty : TypeId) (pos : String) (after : Array Edge) (guard : Option (Nat × Bool)) :
    execOp r ⟨dst, .store 23 p v, ty, pos, after, guard⟩ = stT 23 (r p) (r v) := rfl
/-- The digest of all, stored in a record. -/
theorem st_whole {w : World} {b : Nat} {T : TypeId} {r : Rc} (hR : Row w b T 54 (rcF r)) (d : By) (hd : d.length = 32) :
    ∃ w', (stT 23 (.pointer (some ⟨b, 21, none⟩)) (digV d)).run Tryd.prog w = .ok .skip w' ∧ Row w' b T 54 (rcF { r with whole := d }) ∧ Kp b w w' := by
  have h := run_storeCells_at (P := Tryd.prog) b 21 T (digC d) 0 (tab 54 (rcF r)) w hR (by rw [digC_len, tab_size]; omega) (digC_one d)
  have e : ((tab 54 (rcF r)).toList.take (21 + 0) ++ digC d ++ (tab 54 (rcF r)).toList.drop (21 + 0 + (digC d).length)).toArray = tab 54 (rcF { r with whole := d }) := by
    apply Array.ext_getElem?
    intro i
    rw [List.getElem?_toArray, digC_len, hd]
    have hlt : ((tab 54 (rcF r)).toList.take (21 + 0)).length = 21 := by simp [tab]
    by_cases h1 : i < 21
    · rw [List.append_assoc, List.getElem?_append_left (by omega), List.getElem?_take, if_pos h1, Array.getElem?_toList, tab_get 54 _ i (by omega), tab_get 54 _ i (by omega)]
      unfold rcF
      repeat (first | rfl | (split; rfl))
      all_goals (first | rfl | omega)
    · by_cases h2 : i < 53
      · rw [List.append_assoc, List.getElem?_append_right (by omega), hlt, List.getElem?_append_left (by rw [digC_len]; omega), tab_get 54 _ i (by omega)]
        unfold digC rcF dgF
        rw [if_neg (by omega), if_neg (by omega), if_neg (by omega), if_neg (by omega), if_neg (by omega), if_neg (by omega), if_pos (by omega)]
        have h32 : i - 21 < d.length := by omega
        rw [List.getElem?_map, List.getElem?_eq_getElem h32, List.getD_eq_getElem?_getD, List.getElem?_eq_getElem h32]
        rfl
      · by_cases h3 : i < 54
        · obtain rfl : i = 53 := by omega
          rw [List.append_assoc, List.getElem?_append_right (by omega), hlt, List.getElem?_append_right (by rw [digC_len]; omega), digC_len, hd, List.getElem?_drop, Array.getElem?_toList, tab_get 54 _ _ (by omega), tab_get 54 _ 53 (by omega)]
          rfl
        · rw [List.getElem?_eq_none (by simp [tab, digC_len, hd]; omega), Array.getElem?_eq_none (by rw [tab_size]; omega)]
  rw [e] at h
  refine ⟨w.setRow b (tab 54 (rcF { r with whole := d })), ?_, setRow_heap w b _ _ T _ hR, ⟨rfl, rfl, rfl, by simp [World.setRow], fun k _ hk => setRow_other w b k _ hk⟩⟩
  have hs := size32
  have hds : (tab 32 (dgF d)).toList = digC d := dig_tab hd
  cases hq : Tryd.prog.info? 23 with
  | none => rw [hq] at hs; cases hs
  | some i =>
    rw [hq] at hs
    have hs2 : i.size = 32 := by simpa using hs
    unfold digV
    simp [stT, Instr.storeAt, Instr.sureAddr, storeVar, sizeOf, typeInfo, hq, Value.cells, hs2, hds, h, tab_size]
theorem goodR_of (p : S8) (n : Nat) (t c : Int) (f : Nat → Int) (wh : By) (q : Option Addr) (c7 : Nat) : goodR ⟨p, (n : Int), t, c, f, false, wh, q, nblk n, c7⟩ = decide (rfE p (n : Int) t c f = 0) := by
  unfold goodR
  simp
theorem goodR_gone (p : S8) (t c : Int) (f : Nat → Int) (q : Option Addr) (c7 : Nat) : goodR ⟨p, 0, t, c, f, true, z32, q, 0, c7⟩ = decide (rfE p 0 t c f = 0) := by
  have h : nblk 0 = 0 := by decide
  unfold goodR
  simp [h, deq_self]
theorem rfE_kind {p : S8} {s t c : Int} {f : Nat → Int} (h : kindL p = 3) (h0 : rfE p s t c f ≠ 0) : rfE p s t c f = 1 := by
  unfold rfE at h0 ⊢
  rw [if_pos h] at h0 ⊢
  split
  · rename_i h2
    rw [if_pos h2] at h0
    exact absurd rfl h0
  · rfl
attribute [local go_sem ↓] exec_boxA exec_loadA exec_indexA exec_allocA exec_storeA exec_buildA exec_eqlA exec_neqA exec_boxV exec_loadV exec_indexV exec_allocV exec_storeV exec_buildV exec_eqlV exec_neqV
attribute [local go_sem] boxA indexA storeNewA buildA eqlA neqA boxV indexV storeNewV buildV eqlV neqV
attribute [local go_sem ↓] exec_loadS exec_boxS exec_boxP exec_boxM exec_allocP exec_allocM exec_storeP exec_storeM exec_buildP exec_buildM exec_buildS exec_load32 exec_build32 exec_eqlD exec_neqD exec_loadM exec_store32F
attribute [local go_sem] box_stamp boxP boxM bd32 eqlD neqD bdM0 bdP0 bdS3
set_option maxRecDepth 100000 in
set_option maxHeartbeats 8000000 in
theorem refOf_any (p : S8) (hp : p.length < 100000) (l : By) (q : Option Addr) (n cap : Nat) (t c : Int) (f : Nat → Int) (w : World) (hl : l.length = n) (hs : Sl w q l) (hq : q = none → cap = 0) (hc : n ≤ cap) (hn : n < 1000000) (hT : Tb w) :
    Calls Tryd.prog 8 #[.string (mkS p), .slice q n cap, .int .i64 t, .int .i64 c, vcV f, .bool false] w fun e w' => ∃ r, e = .returned (.tuple #[rcV r, .int .i64 (rfE p (n : Int) t c f)]) ∧ Below w.heap.size w w' ∧ OfPost w' p l t c f (rfE p (n : Int) t c f) r := by
  obtain ⟨X, hX⟩ : ∃ X, rfE p (n : Int) t c f = X := ⟨_, rfl⟩
  have HX := Lib.hid hX
  rw [hX]
  clear hX
  obtain ⟨W1, hW1⟩ : ∃ W, w.alloc (.cells (tab 16 (vf f)) 22) = W := ⟨_, rfl⟩
  obtain ⟨W2, hW2⟩ : ∃ W, W1.alloc (.cells (tab 54 (rcF rc0)) 26) = W := ⟨_, rfl⟩
  obtain ⟨W3, hW3⟩ : ∃ W, W2.alloc (.cells (tab 54 (rcF rc0)) 26) = W := ⟨_, rfl⟩
  have hB1 : Below w.heap.size w W1 := by rw [← hW1]; exact below_newD _ _
  have hB2 : Below W1.heap.size W1 W2 := by rw [← hW2]; exact below_newD _ _
  have hB3 : Below W2.heap.size W2 W3 := by rw [← hW3]; exact below_newD _ _
  have z1 : W1.heap.size = w.heap.size + 1 := by rw [← hW1]; simp
  have z2 : W2.heap.size = w.heap.size + 2 := by rw [← hW2]; simp [z1]
  have z3 : W3.heap.size = w.heap.size + 3 := by rw [← hW3]; simp [z2]
  have hV1 : Row W1 w.heap.size 22 16 (vf f) := by rw [← hW1]; exact Row.new _ _ _ _
  have l1 := loadVT vtA (VecAt.of_row (hV1.of_below hB2) (Nat.le_refl _))
  have hR2 : Row W2 W1.heap.size 26 54 (rcF rc0) := by rw [← hW2]; exact Row.new _ _ _ _
  have hR3 : Row W3 W2.heap.size 26 54 (rcF rc0) := by rw [← hW3]; exact Row.new _ _ _ _
  have hR23 := hR2.of_below hB3
  obtain ⟨r1, hr1⟩ : ∃ r : Rc, ⟨p, 0, t, c, f, false, z32, none, 0, 0⟩ = r := ⟨_, rfl⟩
  have hbd := bdM5 p 0 t c f false [] none 0 0 W2
  rw [hr1] at hbd
  obtain ⟨W4, hst, hR4, hK4⟩ := storeRT rtM hR3 r1
  have hR24 := hR23.of_kp hK4 (by omega)
  have hB4 : Below w.heap.size w W4 := ((hB1.trans (hB2.mono hB1.size)).trans (hB3.mono (by omega))).trans (hK4.below (by omega) (by omega))
  have z4 : w.heap.size + 3 ≤ W4.heap.size := by have := hK4.size; omega
  obtain ⟨b12, e12⟩ : ∃ b, W1.heap.size = b := ⟨_, rfl⟩
  obtain ⟨b14, e14⟩ : ∃ b, W2.heap.size = b := ⟨_, rfl⟩
  rw [e12] at hR24
  rw [e14] at hR4 hst
  have x1 := rc_size hR4
  have x2 := hR4.free 1
  obtain ⟨W5, hW5⟩ : ∃ W, W4.setCell ⟨b14, 1, none⟩ (.int .i64 (n : Int)) = W := ⟨_, rfl⟩
  have hR5 : Row W5 b14 26 54 (rcF { r1 with size := (n : Int) }) := by
    rw [← hW5]
    refine (hR4.set 1 (.int .i64 (n : Int))).congr fun i hi => ?_
    unfold rcF
    by_cases i1 : i = 1
    · rw [if_pos i1, if_neg (by omega), if_pos i1]
    · rw [if_neg i1, if_neg i1, if_neg i1]
  have hK5 : Kp b14 W4 W5 := by rw [← hW5]; exact (Kp.refl _ _).setCell 1 _
  have hR25 := hR24.of_kp hK5 (by omega)
  have hB5 := hB4.trans (hK5.below (by omega) (by omega))
  have z5 : w.heap.size + 3 ≤ W5.heap.size := by have := hK5.size; omega
  have HA := Lib.hid (And.intro hR5 (And.intro hR25 (And.intro hB5 z5)))
  have HBD := Lib.hid (show b12 = w.heap.size + 1 ∧ b14 = w.heap.size + 2 by omega)
  have hsz5 := hB5
  have HSM := Lib.hid (refSum1_any l q n cap W5 hl (hs.of_below hB5) hq (hT.on hB5) (by omega))
  have HSS := Lib.hid (fun (u : World) (hu : Below w.heap.size w u) => refSums_any l q n cap u hl (hs.of_below hu) hq hc hn (hT.on hu))
  have HKD := Lib.hid (fun u => refKind_any p hp u)
  have HLL := Lib.hid hl
  have hr1' := hr1
  have HR1 := Lib.hid hr1'
  clear hB1 hB2 hB3 z1 z2 z3 hV1 hR2 hR3 hR23 hR4 hK4 hR24 hB4 z4 hR5 hK5 hR25 hB5 z5 hsz5 hl hs hq hT hr1 hr1'
  obtain ⟨V1, hV1⟩ : ∃ V, rcV r1 = V := ⟨_, rfl⟩
  rw [hV1] at hbd hst
  clear hV1
  go_enter Tryd.func8, Tryd.ntmps8
  go_wp2_with fail
  clear hbd hst l1 x1 x2 hW1 hW2 hW3 hW5 e12 e14
  refine HSM.out.mono ?_
  rintro e u6 ⟨rfl, hB6⟩
  obtain ⟨hR5, hR25, hB5, z5⟩ := HA.out
  obtain ⟨u7, hst7, hR7, hK7⟩ := st_whole (hR5.of_below hB6) (digL l) (digL_len l)
  have hR27 := (hR25.of_below hB6).of_kp hK7 (by have := HBD.out; omega)
  have hB7 := (hB5.trans (hB6.mono hB5.size)).trans (hK7.below (by have := HBD.out; omega) (Nat.le_trans hB5.size hB6.size))
  have z7 : w.heap.size + 3 ≤ u7.heap.size := Nat.le_trans z5 (Nat.le_trans hB6.size hK7.size)
  have HA7 := Lib.hid (And.intro hR7 (And.intro hR27 (And.intro hB7 z7)))
  have HSX := Lib.hid (HSS.out u7 hB7)
  clear hR5 hR25 hB5 z5 hB6 hR7 hK7 hR27 hB7 z7
  go_wp2_with fail
  clear hst7
  refine HSX.out.mono ?_
  rintro e u8 ⟨v8, rfl, hO8, hB8⟩
  obtain ⟨q8, c8, rfl, hlt8, hdg8⟩ := dg_own hO8 (show nblk n = (digs l).length by rw [digs_len, HLL.out]) (digs_each l)
  have hdl : (digs l).length = nblk n := by rw [digs_len, HLL.out]
  rw [hdl] at hdg8 ⊢
  obtain ⟨hR7, hR27, hB7, z7⟩ := HA7.out
  have hR8 := hR7.of_below hB8
  have x1 := rc_blocks hR8
  have x2 := hR8.free 53
  obtain ⟨u9, hu9⟩ : ∃ W, u8.setCell ⟨b14, 53, none⟩ (.slice q8 (nblk n) c8) = W := ⟨_, rfl⟩
  obtain ⟨r9, hr9⟩ : ∃ r : Rc, ⟨p, (n : Int), t, c, f, false, digL l, q8, nblk n, c8⟩ = r := ⟨_, rfl⟩
  have hR9 : Row u9 b14 26 54 (rcF r9) := by
    rw [← hu9, ← hr9]
    refine (hR8.set 53 (.slice q8 (nblk n) c8)).congr fun i hi => ?_
    rw [← HR1.out]
    by_cases i1 : i = 53
    · rw [if_pos i1, i1]; rfl
    · rw [if_neg i1]
      unfold rcF
      repeat (first | rfl | (split; rfl))
      all_goals (first | rfl | omega)
  have hK9 : Kp b14 u8 u9 := by rw [← hu9]; exact (Kp.refl _ _).setCell 53 _
  have hR29 := (hR27.of_below hB8).of_kp hK9 (by have := HBD.out; omega)
  have hB9 := (hB7.trans (hB8.mono hB7.size)).trans (hK9.below (by have := HBD.out; omega) (Nat.le_trans hB7.size hB8.size))
  have z9 : w.heap.size + 3 ≤ u9.heap.size := Nat.le_trans z7 (Nat.le_trans hB8.size hK9.size)
  have hD9 : DgAt u9 r9 (digs l) := by
    rw [← hr9]
    refine (hdg8 _ rfl rfl rfl (digL_len _)).keep fun c o e hlt => hK9.block c hlt ?_
    have := (hlt8 c o e).1
    have := HBD.out
    omega
  have HA9 := Lib.hid (And.intro hR9 (And.intro hR29 (And.intro hB9 (And.intro z9 hD9))))
  have HQB := Lib.hid (show ∀ c o, r9.q = some ⟨c, o, none⟩ → w.heap.size + 3 ≤ c from fun c o e => by rw [← hr9] at e; have := (hlt8 c o e).1; omega)
  have HR9 := Lib.hid hr9
  clear hR7 hR27 hB7 z7 hR8 hR9 hK9 hR29 hB9 z9 hD9 hO8 hB8 hlt8 hdg8 hdl hr9
  go_wp2_with fail
  clear x1 x2 hu9
  refine (HKD.out _).mono ?_
  rintro e u10 ⟨rfl, hB10⟩
  obtain ⟨hR9, hR29, hB9, z9, hD9⟩ := HA9.out
  have hX := HX.out
  have hR10 := hR9.of_below hB10
  have hR210 := hR29.of_below hB10
  have hB10' := hB9.trans (hB10.mono hB9.size)
  have HD10 := Lib.hid (hD9.of_below hB10)
  have z10 : w.heap.size + 3 ≤ u10.heap.size := Nat.le_trans z9 hB10.size
  by_cases hk : kindL p = 3
  · have HKK := Lib.hid hk
    have hw9 : r9.whole.length = 32 := hD9.whole
    have hp9 : r9.path.length < 100000 := by rw [← HR9.out]; exact hp
    have HG := Lib.hid (refGood10_any r9 hp9 hw9 u10)
    have hg9 : goodR r9 = decide (X = 0) := by rw [← HR9.out, goodR_of, hX]
    rw [hg9] at HG
    have l10 := loadRT rtM hR10
    have HA10 := Lib.hid (And.intro hR10 (And.intro hR210 (And.intro hB10' z10)))
    rw [hk]
    clear hR9 hR29 hB9 z9 hD9 hB10 hX hR10 hR210 hB10' z10 hk hw9 hp9 hg9
    by_cases hx : X = 0
    · subst hx
      go_wp2_with fail
      clear l10
      refine HG.out.mono ?_
      rintro e u11 ⟨rfl, hB11⟩
      obtain ⟨hR10, hR210, hB10, z10⟩ := HA10.out
      have l11 := loadRT rtM (hR10.of_below hB11)
      obtain ⟨u12, hst12, hR12, hK12⟩ := storeRT rtM (hR210.of_below hB11) r9
      have hb12 := (hB10.trans (hB11.mono hB10.size)).trans (hK12.below (by have := HBD.out; omega) (Nat.le_trans hB10.size hB11.size))
      have HB12 := Lib.hid hb12
      have HR12 := Lib.hid hR12
      have HD12 := Lib.hid ((HD10.out.of_below hB11).keep (u := u12) fun c o e hlt => hK12.block c hlt (by
        have h1 := HQB.out c o e
        have := HBD.out
        omega))
      clear hR10 hR210 hB10 z10 hB11 hR12 hK12 hb12
      go_wp2
      refine bodyPost_ret (resR2 rtM rfl _ u12 b12 26 r9 (.int .i64 0) rfl rfl HR12.out) rfl ?_
      refine ⟨r9, rfl, HB12.out, ?_⟩
      unfold OfPost
      rw [if_pos rfl]
      have hd := HD12.out
      rw [← HR9.out] at hd ⊢
      exact ⟨rfl, by rw [HLL.out], rfl, rfl, rfl, rfl, rfl, digs l, rfl, hd⟩
    · have dx : decide (X = 0) = false := decide_eq_false hx
      have h1 : X = 1 := by have := rfE_kind (s := (n : Int)) (t := t) (c := c) (f := f) HKK.out (by rw [HX.out]; exact hx); rw [HX.out] at this; exact this
      subst h1
      rw [dx] at HG
      clear dx hx
      go_wp2_with fail
      clear l10
      refine HG.out.mono ?_
      rintro e u11 ⟨rfl, hB11⟩
      obtain ⟨hR10, hR210, hB10, z10⟩ := HA10.out
      obtain ⟨u12, hst12, hR12, hK12⟩ := storeRT rtM (hR210.of_below hB11) rc0
      have hb12 := (hB10.trans (hB11.mono hB10.size)).trans (hK12.below (by have := HBD.out; omega) (Nat.le_trans hB10.size hB11.size))
      have HB12 := Lib.hid hb12
      have HR12 := Lib.hid hR12
      clear hR10 hR210 hB10 z10 hB11 hR12 hK12 hb12
      go_wp2
      refine bodyPost_ret (resR2 rtM rfl _ u12 b12 26 rc0 (.int .i64 1) rfl rfl HR12.out) rfl ?_
      exact ⟨rc0, rfl, HB12.out, by unfold OfPost; rw [if_neg (by decide)]⟩
  · have hX7 : X = 7 := by rw [← hX]; unfold rfE; rw [if_neg hk]
    subst hX7
    obtain ⟨k, hkk⟩ : ∃ k, kindL p = k := ⟨_, rfl⟩
    rw [hkk] at hk ⊢
    have hk1 : ¬ (k : Int) = 3 := by omega
    have hk2 : decide ((k : Int) = 3) = false := decide_eq_false hk1
    obtain ⟨u12, hst12, hR12, hK12⟩ := storeRT rtM hR210 rc0
    have hb12 := hB10'.trans (hK12.below (by have := HBD.out; omega) (by omega))
    have HB12 := Lib.hid hb12
    have HR12 := Lib.hid hR12
    clear hR9 hR29 hB9 z9 hD9 hB10 hX hR10 hR210 hB10' z10 hR12 hK12 hb12 hkk hk
    go_wp2
    refine bodyPost_ret (resR2 rtM rfl _ u12 b12 26 rc0 (.int .i64 7) rfl rfl HR12.out) rfl ?_
    exact ⟨rc0, rfl, HB12.out, by unfold OfPost; rw [if_neg (by decide)]⟩
end Go.Proofs.YtfemgkamgokjcaaDoor
/- The reference's record of a deleted file. -/
set_option maxRecDepth 100000
namespace Go.Proofs.YtfemgkamgokjcaaDoor
open Go Go.RowKit Go.Shelf

attribute [-go_sem] Sha.exec_store
attribute [local go_sem ↓] exec_boxA exec_loadA exec_indexA exec_allocA exec_storeA exec_buildA exec_eqlA exec_neqA exec_boxV exec_loadV exec_indexV exec_allocV exec_storeV exec_buildV exec_eqlV exec_neqV
attribute [local go_sem] boxA indexA storeNewA buildA eqlA neqA boxV indexV storeNewV buildV eqlV neqV
attribute [local go_sem ↓] exec_loadS exec_boxS exec_boxP exec_boxM exec_allocP exec_allocM exec_storeP exec_storeM exec_buildP exec_buildM exec_buildS exec_load32 exec_build32 exec_eqlD exec_neqD exec_loadM exec_store32F
attribute [local go_sem] box_stamp boxP boxM bd32 eqlD neqD bdM0 bdP0 bdS3
set_option maxRecDepth 100000 in
set_option maxHeartbeats 8000000 in
theorem refGone_any (p : S8) (hp : p.length < 100000) (t c : Int) (f : Nat → Int) (w : World) :
    Calls Tryd.prog 8 #[.string (mkS p), .slice none 0 0, .int .i64 t, .int .i64 c, vcV f, .bool true] w fun e w' => e = .returned (.tuple #[rcV (gnR p t c f), .int .i64 (rfE p 0 t c f)]) ∧ Below w.heap.size w w' := by
  obtain ⟨X, hX⟩ : ∃ X, rfE p 0 t c f = X := ⟨_, rfl⟩
  have HX := Lib.hid hX
  obtain ⟨R, hR⟩ : ∃ R, gnR p t c f = R := ⟨_, rfl⟩
  have HRR := Lib.hid (show R = if X = 0 then ⟨p, 0, t, c, f, true, z32, none, 0, 0⟩ else rc0 from by rw [← hR, ← hX]; rfl)
  rw [hX, hR]
  clear hX hR
  obtain ⟨W1, hW1⟩ : ∃ W, w.alloc (.cells (tab 16 (vf f)) 22) = W := ⟨_, rfl⟩
  obtain ⟨W2, hW2⟩ : ∃ W, W1.alloc (.cells (tab 54 (rcF rc0)) 26) = W := ⟨_, rfl⟩
  obtain ⟨W3, hW3⟩ : ∃ W, W2.alloc (.cells (tab 54 (rcF rc0)) 26) = W := ⟨_, rfl⟩
  have hB1 : Below w.heap.size w W1 := by rw [← hW1]; exact below_newD _ _
  have hB2 : Below W1.heap.size W1 W2 := by rw [← hW2]; exact below_newD _ _
  have hB3 : Below W2.heap.size W2 W3 := by rw [← hW3]; exact below_newD _ _
  have z1 : W1.heap.size = w.heap.size + 1 := by rw [← hW1]; simp
  have z2 : W2.heap.size = w.heap.size + 2 := by rw [← hW2]; simp [z1]
  have z3 : W3.heap.size = w.heap.size + 3 := by rw [← hW3]; simp [z2]
  have hV1 : Row W1 w.heap.size 22 16 (vf f) := by rw [← hW1]; exact Row.new _ _ _ _
  have l1 := loadVT vtA (VecAt.of_row (hV1.of_below hB2) (Nat.le_refl _))
  have hR2 : Row W2 W1.heap.size 26 54 (rcF rc0) := by rw [← hW2]; exact Row.new _ _ _ _
  have hR3 : Row W3 W2.heap.size 26 54 (rcF rc0) := by rw [← hW3]; exact Row.new _ _ _ _
  have hR23 := hR2.of_below hB3
  obtain ⟨r9, hr9⟩ : ∃ r : Rc, ⟨p, 0, t, c, f, true, z32, none, 0, 0⟩ = r := ⟨_, rfl⟩
  have hbd := bdM5 p 0 t c f true [] none 0 0 W2
  rw [hr9] at hbd HRR
  obtain ⟨u9, hst, hR9, hK4⟩ := storeRT rtM hR3 r9
  have hR29 := hR23.of_kp hK4 (by omega)
  have hB9 : Below w.heap.size w u9 := ((hB1.trans (hB2.mono hB1.size)).trans (hB3.mono (by omega))).trans (hK4.below (by omega) (by omega))
  have z9 : w.heap.size + 3 ≤ u9.heap.size := by have := hK4.size; omega
  obtain ⟨b12, e12⟩ : ∃ b, W1.heap.size = b := ⟨_, rfl⟩
  obtain ⟨b14, e14⟩ : ∃ b, W2.heap.size = b := ⟨_, rfl⟩
  rw [e12] at hR29
  rw [e14] at hR9 hst
  have HA9 := Lib.hid (And.intro hR9 (And.intro hR29 (And.intro hB9 z9)))
  have HBD := Lib.hid (show b12 = w.heap.size + 1 ∧ b14 = w.heap.size + 2 by omega)
  have HKD := Lib.hid (fun u => refKind_any p hp u)
  have HR9 := Lib.hid hr9
  clear hB1 hB2 hB3 z1 z2 z3 hV1 hR2 hR3 hR23 hK4 hR9 hR29 hB9 z9 hr9
  obtain ⟨V1, hV1⟩ : ∃ V, rcV r9 = V := ⟨_, rfl⟩
  rw [hV1] at hbd hst
  clear hV1
  go_enter Tryd.func8, Tryd.ntmps8
  go_wp2_with fail
  clear hbd hst l1 hW1 hW2 hW3 e12 e14
  refine (HKD.out _).mono ?_
  rintro e u10 ⟨rfl, hB10⟩
  obtain ⟨hR9, hR29, hB9, z9⟩ := HA9.out
  have hR10 := hR9.of_below hB10
  have hR210 := hR29.of_below hB10
  have hB10' := hB9.trans (hB10.mono hB9.size)
  have z10 : w.heap.size + 3 ≤ u10.heap.size := Nat.le_trans z9 hB10.size
  by_cases hk : kindL p = 3
  · have HKK := Lib.hid hk
    have hw9 : r9.whole.length = 32 := by rw [← HR9.out]; exact z32_len
    have hp9 : r9.path.length < 100000 := by rw [← HR9.out]; exact hp
    have HG := Lib.hid (refGood10_any r9 hp9 hw9 u10)
    have hg9 : goodR r9 = decide (X = 0) := by rw [← HR9.out, goodR_gone, HX.out]
    rw [hg9] at HG
    have l10 := loadRT rtM hR10
    have HA10 := Lib.hid (And.intro hR10 (And.intro hR210 (And.intro hB10' z10)))
    rw [hk]
    clear hR9 hR29 hB9 z9 hB10 hR10 hR210 hB10' z10 hk hw9 hp9 hg9
    by_cases hx : X = 0
    · subst hx
      rw [if_pos rfl] at HRR
      go_wp2_with fail
      clear l10
      refine HG.out.mono ?_
      rintro e u11 ⟨rfl, hB11⟩
      obtain ⟨hR10, hR210, hB10, z10⟩ := HA10.out
      have l11 := loadRT rtM (hR10.of_below hB11)
      obtain ⟨u12, hst12, hR12, hK12⟩ := storeRT rtM (hR210.of_below hB11) r9
      have hb12 := (hB10.trans (hB11.mono hB10.size)).trans (hK12.below (by have := HBD.out; omega) (Nat.le_trans hB10.size hB11.size))
      have HB12 := Lib.hid hb12
      have HR12 := Lib.hid hR12
      clear hR10 hR210 hB10 z10 hB11 hR12 hK12 hb12
      go_wp2
      refine bodyPost_ret (resR2 rtM rfl _ u12 b12 26 r9 (.int .i64 0) rfl rfl HR12.out) rfl ?_
      exact ⟨by rw [HRR.out], HB12.out⟩
    · have dx : decide (X = 0) = false := decide_eq_false hx
      have h1 : X = 1 := by have := rfE_kind (s := 0) (t := t) (c := c) (f := f) HKK.out (by rw [HX.out]; exact hx); rw [HX.out] at this; exact this
      subst h1
      rw [dx] at HG
      rw [if_neg (by decide)] at HRR
      clear dx hx
      go_wp2_with fail
      clear l10
      refine HG.out.mono ?_
      rintro e u11 ⟨rfl, hB11⟩
      obtain ⟨hR10, hR210, hB10, z10⟩ := HA10.out
      obtain ⟨u12, hst12, hR12, hK12⟩ := storeRT rtM (hR210.of_below hB11) rc0
      have hb12 := (hB10.trans (hB11.mono hB10.size)).trans (hK12.below (by have := HBD.out; omega) (Nat.le_trans hB10.size hB11.size))
      have HB12 := Lib.hid hb12
      have HR12 := Lib.hid hR12
      clear hR10 hR210 hB10 z10 hB11 hR12 hK12 hb12
      go_wp2
      refine bodyPost_ret (resR2 rtM rfl _ u12 b12 26 rc0 (.int .i64 1) rfl rfl HR12.out) rfl ?_
      exact ⟨by rw [HRR.out], HB12.out⟩
  · have hX7 : X = 7 := by rw [← HX.out]; unfold rfE; rw [if_neg hk]
    subst hX7
    rw [if_neg (by decide)] at HRR
    obtain ⟨k, hkk⟩ : ∃ k, kindL p = k := ⟨_, rfl⟩
    rw [hkk] at hk ⊢
    have hk1 : ¬ (k : Int) = 3 := by omega
    have hk2 : decide ((k : Int) = 3) = false := decide_eq_false hk1
    obtain ⟨u12, hst12, hR12, hK12⟩ := storeRT rtM hR210 rc0
    have hb12 := hB10'.trans (hK12.below (by have := HBD.out; omega) (by omega))
    have HB12 := Lib.hid hb12
    have HR12 := Lib.hid hR12
    clear hR9 hR29 hB9 z9 hB10 hR10 hR210 hB10' z10 hR12 hK12 hb12 hkk hk
    go_wp2
    refine bodyPost_ret (resR2 rtM rfl _ u12 b12 26 rc0 (.int .i64 7) rfl rfl HR12.out) rfl ?_
    exact ⟨by rw [HRR.out], HB12.out⟩
end Go.Proofs.YtfemgkamgokjcaaDoor
/- Records compared: the same ones. -/
set_option maxRecDepth 100000
namespace Go.Proofs.YtfemgkamgokjcaaDoor
open Go Go.RowKit

attribute [-go_sem] Sha.exec_store
theorem DgAt.ldq {w : World} {r : Rc} {ds : List By} (h : DgAt w r ds) {c o : Nat} (hq : r.q = some ⟨c, o, none⟩) (i : Nat) (hi : i < ds.length) : (ldT 23 (.pointer (some ⟨c, o + i * 32, none⟩))).run Tryd.prog w = .ok (.value (digV (ds.getD i []))) w := by
  obtain ⟨c2, o2, e, -, hc, hl⟩ := h.at i hi
  rw [hq] at e
  injection e with e
  injection e with e1 e2
  subst e1 e2
  refine ld_dig (fun j hj => ⟨c, o + i * 32, rfl, ?_⟩) hl
  have := hc j (by omega)
  rw [Nat.mul_comm i 32]
  exact this
theorem veq_self10 (f : Nat → Int) : veq f f = true := veq_iff.2 fun _ _ => rfl
attribute [local go_sem ↓] exec_boxA exec_loadA exec_indexA exec_allocA exec_storeA exec_buildA exec_eqlA exec_neqA exec_boxV exec_loadV exec_indexV exec_allocV exec_storeV exec_buildV exec_eqlV exec_neqV
attribute [local go_sem] boxA indexA storeNewA buildA eqlA neqA boxV indexV storeNewV buildV eqlV neqV
attribute [local go_sem ↓] exec_loadS exec_boxS exec_boxP exec_boxM exec_load32 exec_build32 exec_eqlD exec_neqD
attribute [local go_sem] box_stamp boxP boxM bd32 eqlD neqD deq_self veq_self10

set_option maxRecDepth 100000 in
set_option maxHeartbeats 4000000 in
/-- The same digests. -/
theorem equalD_yes (r s : Rc) (ds : List By) (w : World) (h1 : DgAt w r ds) (h2 : DgAt w s ds) (hn : ds.length < 100000) :
    Calls Tryd.prog 30 #[.slice r.q r.n r.cap, .slice s.q s.n s.cap] w fun e w' => e = .returned (.bool true) ∧ Below w.heap.size w w' := by
  have hr := h1.n
  have hs := h2.n
  have H1 := Lib.hid h1
  have H2 := Lib.hid h2
  clear h1 h2
  obtain ⟨q, hq⟩ : ∃ q, r.q = q := ⟨_, rfl⟩
  obtain ⟨q2, hq2⟩ : ∃ q, s.q = q := ⟨_, rfl⟩
  obtain ⟨n, hnn⟩ : ∃ n, ds.length = n := ⟨_, rfl⟩
  have HQ := Lib.hid hq
  have HQ2 := Lib.hid hq2
  have HN := Lib.hid hnn
  have hc1 := H1.out.le
  have hc2 := H2.out.le
  rw [hr, hnn] at hc1
  rw [hs, hnn] at hc2
  rw [hr, hs, hq, hq2, hnn]
  rw [hnn] at hn
  obtain ⟨cap, hcap⟩ : ∃ q, r.cap = q := ⟨_, rfl⟩
  obtain ⟨cap2, hcap2⟩ : ∃ q, s.cap = q := ⟨_, rfl⟩
  rw [hcap] at hc1 ⊢
  rw [hcap2] at hc2 ⊢
  clear hq hq2 hnn hr hs hcap hcap2
  go_enter Tryd.func30, Tryd.ntmps30
  go_wp2
  go_loopw [13] (fun i wr => ∃ k : Nat, k ≤ n ∧ i = .int .i64 (k : Int) ∧ Below w.heap.size w wr) (fun i _ => n - (intOf i).toNat)
  case atStart => exact ⟨0, Nat.zero_le _, rfl, Below.refl _ _⟩
  case round =>
    obtain ⟨k, hk, rfl, hB⟩ := hrel
    by_cases hlt : k < n
    · have z1 : (k : Int) < (n : Int) := by omega
      have z2 : decide ((k : Int) < (n : Int)) = true := decide_eq_true z1
      have hkn : k < ds.length := by rw [HN.out]; exact hlt
      obtain ⟨c1, o1, e1, -⟩ := H1.out.at k hkn
      obtain ⟨c2, o2, e2, -⟩ := H2.out.at k hkn
      have hq1 := HQ.out.symm.trans e1
      have hq2 := HQ2.out.symm.trans e2
      obtain ⟨d, hd⟩ : ∃ d, ds.getD k [] = d := ⟨_, rfl⟩
      have HS := Lib.hid (fun (u : World) (hu : Below w.heap.size w u) => (show _ ∧ _ ∧ _ from ⟨(H1.out.of_below hu).ldq e1 k hkn, (H2.out.of_below hu).ldq e2 k hkn, hu⟩))
      rw [hd] at HS
      subst hq1 hq2
      have w3 : IntKind.i64.wrap ((k : Int) + 1) = (k : Int) + 1 := by rw [IntKind.wrap_i64]; omega
      clear hd hkn e1 e2
      go_wp2
      refine wp_region_noPanic ?_
      refine wp_region_held_drew (S := (fun u : World => (ldT 23 (.pointer (some ⟨c1, o1 + k * 32, none⟩))).run Tryd.prog u = .ok (.value (digV d)) u ∧ (ldT 23 (.pointer (some ⟨c2, o2 + k * 32, none⟩))).run Tryd.prog u = .ok (.value (digV d)) u ∧ Below w.heap.size w u)) (by kernel_rfl) (HS.out _ (hB.drew)) (fun hHeld => ?_)
      refine wpAnyH_take (i := 0) (v := ?_) (by simp only [List.getElem?_toArray, List.getElem?_cons_succ, List.getElem?_cons_zero]; exact rfl) (by kernel_rfl) (by kernel_rfl) (by kernel_rfl) (fun _ _ _ h => h) (Or.inl ⟨by rfl, ?_⟩) (by assumption) ?_
      rotate_left 1
      · (intro w hSw; (try dsimp only at hSw); go_simp; try with_reducible rfl)
      try simp only [Act.put, List.setIfInBounds_toArray, List.set_cons_zero, List.set_cons_succ]
      refine wpAnyH_take (i := 1) (v := ?_) (by simp only [List.getElem?_toArray, List.getElem?_cons_succ, List.getElem?_cons_zero]; exact rfl) (by kernel_rfl) (by kernel_rfl) (by kernel_rfl) (fun _ _ _ h => h) (Or.inl ⟨by rfl, ?_⟩) (by assumption) ?_
      rotate_left 1
      · (intro w hSw; (try dsimp only at hSw); go_simp; try with_reducible rfl)
      try simp only [Act.put, List.setIfInBounds_toArray, List.set_cons_zero, List.set_cons_succ]
      refine wpAnyH_take (i := 2) (v := ?_) (by simp only [List.getElem?_toArray, List.getElem?_cons_succ, List.getElem?_cons_zero]; exact rfl) (by kernel_rfl) (by kernel_rfl) (by kernel_rfl) (fun _ _ _ h => h) (Or.inl ⟨by rfl, ?_⟩) (by assumption) ?_
      rotate_left 1
      · (intro w hSw; (try dsimp only at hSw); go_simp; try with_reducible rfl)
      try simp only [Act.put, List.setIfInBounds_toArray, List.set_cons_zero, List.set_cons_succ]
      refine wpAnyH_take (i := 3) (v := ?_) (by simp only [List.getElem?_toArray, List.getElem?_cons_succ, List.getElem?_cons_zero]; exact rfl) (by kernel_rfl) (by kernel_rfl) (by kernel_rfl) (fun _ _ _ h => h) (Or.inl ⟨by rfl, ?_⟩) (by assumption) ?_
      rotate_left 1
      · (intro w hSw; (try dsimp only at hSw); go_simp; try with_reducible rfl)
      try simp only [Act.put, List.setIfInBounds_toArray, List.set_cons_zero, List.set_cons_succ]
      refine wpAnyH_take (i := 4) (v := ?_) (by simp only [List.getElem?_toArray, List.getElem?_cons_succ, List.getElem?_cons_zero]; exact rfl) (by kernel_rfl) (by kernel_rfl) (by kernel_rfl) (fun _ _ _ h => h) (Or.inl ⟨by rfl, ?_⟩) (by assumption) ?_
      rotate_left 1
      · (intro w hSw; (try dsimp only at hSw); go_simp; try with_reducible rfl)
      try simp only [Act.put, List.setIfInBounds_toArray, List.set_cons_zero, List.set_cons_succ]
      refine wpAnyH_take (i := 5) (v := ?_) (by simp only [List.getElem?_toArray, List.getElem?_cons_succ, List.getElem?_cons_zero]; exact rfl) (by kernel_rfl) (by kernel_rfl) (by kernel_rfl) (fun _ _ _ h => h) (Or.inl ⟨by rfl, ?_⟩) (by assumption) ?_
      rotate_left 1
      · (intro w hSw; (try dsimp only at hSw); go_simp; try with_reducible rfl)
      try simp only [Act.put, List.setIfInBounds_toArray, List.set_cons_zero, List.set_cons_succ]
      refine wpAnyH_take (i := 6) (v := ?_) (by simp only [List.getElem?_toArray, List.getElem?_cons_succ, List.getElem?_cons_zero]; exact rfl) (by kernel_rfl) (by kernel_rfl) (by kernel_rfl) (fun _ _ _ h => h) (Or.inl ⟨by rfl, ?_⟩) (by assumption) ?_
      rotate_left 1
      · (intro w hSw; (try dsimp only at hSw); go_simp; try with_reducible rfl)
      try simp only [Act.put, List.setIfInBounds_toArray, List.set_cons_zero, List.set_cons_succ]
      refine wpAnyH_take (i := 7) (v := ?_) (by simp only [List.getElem?_toArray, List.getElem?_cons_succ, List.getElem?_cons_zero]; exact rfl) (by kernel_rfl) (by kernel_rfl) (by kernel_rfl) (fun _ _ _ h => h) (Or.inl ⟨by rfl, ?_⟩) (by assumption) ?_
      rotate_left 1
      · (intro w hSw; (try dsimp only at hSw); go_simp; try with_reducible rfl)
      try simp only [Act.put, List.setIfInBounds_toArray, List.set_cons_zero, List.set_cons_succ]
      refine wpAnyH_take (i := 8) (v := ?_) (by simp only [List.getElem?_toArray, List.getElem?_cons_succ, List.getElem?_cons_zero]; exact rfl) (by kernel_rfl) (by kernel_rfl) (by kernel_rfl) (fun _ _ _ h => h) (Or.inl ⟨by rfl, ?_⟩) (by assumption) ?_
      rotate_left 1
      · (intro w hSw; (try dsimp only at hSw); go_simp; try with_reducible rfl)
      try simp only [Act.put, List.setIfInBounds_toArray, List.set_cons_zero, List.set_cons_succ]
      refine wpAnyH_done (by kernel_rfl) ?_ _
      refine NoPanic.normal ?_
      have HX := Lib.hid hHeld.2.2
      clear hHeld
      go_wp2
      go_roundw
      case rel => exact ⟨k + 1, by omega, by go_num, HX.out⟩
      case measure => simp [intOf]; omega
    · have z1 : ¬ (k : Int) < (n : Int) := by omega
      have z2 : decide ((k : Int) < (n : Int)) = false := decide_eq_false z1
      have HB := Lib.hid hB
      clear hB
      go_wp2
      go_ret
      exact ⟨rfl, HB.out⟩
/-- Two records with the same fields, their digests wherever. -/
def Rc.mov (r : Rc) (q : Option Addr) (cap : Nat) : Rc := ⟨r.path, r.size, r.time, r.chg, r.ver, r.dead, r.whole, q, r.n, cap⟩
set_option maxRecDepth 100000 in
set_option maxHeartbeats 8000000 in
theorem refSame_yes (r : Rc) (q2 : Option Addr) (cap2 : Nat) (ds : List By) (w : World) (h1 : DgAt w r ds) (h2 : DgAt w (r.mov q2 cap2) ds) (hn : ds.length < 100000) :
    Calls Tryd.prog 9 #[rcV r, rcV (r.mov q2 cap2)] w fun e w' => e = .returned (.bool true) ∧ Below w.heap.size w w' := by
  obtain ⟨W1, hW1⟩ : ∃ W1, w.alloc (.cells (tab 54 (rcF r)) 26) = W1 := ⟨_, rfl⟩
  obtain ⟨W2, hW2⟩ : ∃ W2, W1.alloc (.cells (tab 54 (rcF (r.mov q2 cap2))) 26) = W2 := ⟨_, rfl⟩
  have hB1 : Below w.heap.size w W1 := by rw [← hW1]; exact below_newD _ _
  have hB2 : Below W1.heap.size W1 W2 := by rw [← hW2]; exact below_newD _ _
  have hR1 : Row W2 w.heap.size 26 54 (rcF r) := (by rw [← hW1]; exact Row.new w _ 54 _ : Row W1 w.heap.size 26 54 (rcF r)).of_below hB2
  have hR2 : Row W2 W1.heap.size 26 54 (rcF (r.mov q2 cap2)) := by rw [← hW2]; exact Row.new W1 _ 54 _
  have hwl := h1.whole
  have HB := Lib.hid (hB1.trans (hB2.mono hB1.size))
  have H1 := Lib.hid (h1.of_below HB.out)
  have H2 := Lib.hid (h2.of_below HB.out)
  have HD := Lib.hid (⟨hR1, hR2⟩ : _ ∧ _)
  have hbx1 : ∀ V, rcV r = V → (bxT 26 V).run Tryd.prog w = .ok (.value (.pointer (some ⟨w.heap.size, 0, none⟩))) W1 := fun V e => by rw [← e, ← hW1]; exact boxM w r
  have hbx2 : ∀ V, rcV (r.mov q2 cap2) = V → (bxT 26 V).run Tryd.prog W1 = .ok (.value (.pointer (some ⟨W1.heap.size, 0, none⟩))) W2 := fun V e => by rw [← e, ← hW2]; exact boxM W1 _
  obtain ⟨V1, hV1⟩ : ∃ V, rcV r = V := ⟨_, rfl⟩
  obtain ⟨V2, hV2⟩ : ∃ V, rcV (r.mov q2 cap2) = V := ⟨_, rfl⟩
  have x1 := hbx1 V1 hV1
  have x2 := hbx2 V2 hV2
  rw [hV1, hV2]
  have a0 := rc_path hR1
  have a1 := rc_size hR1
  have a2 := rc_time hR1
  have a3 := rc_chg hR1
  have a4 := loadVT vtA (rc_ver hR1)
  have a5 := rc_dead hR1
  have a6 := ld_dig (rc_whole hR1 hwl) hwl
  have a7 := rc_blocks hR1
  have b0 := rc_path hR2
  have b1' := rc_size hR2
  have b2' := rc_time hR2
  have b3 := rc_chg hR2
  have b4 := loadVT vtA (rc_ver hR2)
  have b5 := rc_dead hR2
  have b6 := ld_dig (rc_whole hR2 hwl) hwl
  have b7 := rc_blocks hR2
  have hrn := h1.n
  have hc1 := h1.le
  have hc2 := h2.le
  clear hB1 hB2 hR1 hR2 hbx1 hbx2 hV1 hV2 hW1 hW2 h1 h2 hwl
  obtain ⟨p, s, t, c, f, d, wh, q, n, cap⟩ := r
  dsimp only [Rc.mov] at *
  have HN := Lib.hid hrn
  obtain ⟨b1, hb1⟩ : ∃ b1, w.heap.size = b1 := ⟨_, rfl⟩
  obtain ⟨b2, hb2⟩ : ∃ b2, W1.heap.size = b2 := ⟨_, rfl⟩
  have HB1 := Lib.hid hb1
  have HB2 := Lib.hid hb2
  rw [hb1] at x1 a0 a1 a2 a3 a4 a5 a6 a7
  rw [hb2] at x2 b0 b1' b2' b3 b4 b5 b6 b7
  rw [hb1, hb2] at HD
  rw [← hrn] at hn
  clear hrn hb1 hb2
  go_enter Tryd.func9, Tryd.ntmps9
  cases d
  all_goals (
    go_wp2
    clear x1 x2 a0 a1 a2 a3 a4 a5 a6 b0 b1' b2' b3 b4 b5 b6 a7 b7
    go_loopw [65] (fun i wr => ∃ k : Nat, k ≤ n ∧ i = .int .i64 (k : Int) ∧ Below W2.heap.size W2 wr) (fun i _ => n - (intOf i).toNat)
    case atStart => exact ⟨0, Nat.zero_le _, rfl, Below.refl _ _⟩
    case round =>
      obtain ⟨k, hk, rfl, hB⟩ := hrel
      by_cases hlt : k < n
      · have z1 : (k : Int) < (n : Int) := by omega
        have z2 : decide ((k : Int) < (n : Int)) = true := decide_eq_true z1
        have hkn : k < ds.length := by rw [← HN.out]; exact hlt
        obtain ⟨c1, o1, e1, -⟩ := H1.out.at k hkn
        obtain ⟨c2, o2, e2, -⟩ := H2.out.at k hkn
        dsimp only at e1 e2
        obtain ⟨d, hd⟩ : ∃ d, ds.getD k [] = d := ⟨_, rfl⟩
        have HS := Lib.hid (fun (u : World) (hu : Below W2.heap.size W2 u) => (show _ ∧ _ ∧ _ ∧ _ ∧ _ from ⟨(H1.out.of_below hu).ldq e1 k hkn, (H2.out.of_below hu).ldq e2 k hkn, rc_blocks (HD.out.1.of_below hu), rc_blocks (HD.out.2.of_below hu), hu⟩))
        rw [hd] at HS
        dsimp only at HS
        subst e1 e2
        have w3 : IntKind.i64.wrap ((k : Int) + 1) = (k : Int) + 1 := by rw [IntKind.wrap_i64]; omega
        clear hd hkn
        go_wp2
        refine wp_region_noPanic ?_
        refine wp_region_held_drew (S := (fun u : World => (ldT 23 (.pointer (some ⟨c1, o1 + k * 32, none⟩))).run Tryd.prog u = .ok (.value (digV d)) u ∧ (ldT 23 (.pointer (some ⟨c2, o2 + k * 32, none⟩))).run Tryd.prog u = .ok (.value (digV d)) u ∧ u.cell? ⟨b1, 53, none⟩ = some (.slice (some ⟨c1, o1, none⟩) n cap) ∧ u.cell? ⟨b2, 53, none⟩ = some (.slice (some ⟨c2, o2, none⟩) n cap2) ∧ Below W2.heap.size W2 u)) (by kernel_rfl) (HS.out _ (hB.drew)) (fun hHeld => ?_)
        refine wpAnyH_take (i := 0) (v := ?_) (by simp only [List.getElem?_toArray, List.getElem?_cons_succ, List.getElem?_cons_zero]; exact rfl) (by kernel_rfl) (by kernel_rfl) (by kernel_rfl) (fun _ _ _ h => h) (Or.inl ⟨by rfl, ?_⟩) (by assumption) ?_
        rotate_left 1
        · (intro w hSw; (try dsimp only at hSw); go_simp; try with_reducible rfl)
        try simp only [Act.put, List.setIfInBounds_toArray, List.set_cons_zero, List.set_cons_succ]
        refine wpAnyH_take (i := 1) (v := ?_) (by simp only [List.getElem?_toArray, List.getElem?_cons_succ, List.getElem?_cons_zero]; exact rfl) (by kernel_rfl) (by kernel_rfl) (by kernel_rfl) (fun _ _ _ h => h) (Or.inl ⟨by rfl, ?_⟩) (by assumption) ?_
        rotate_left 1
        · (intro w hSw; (try dsimp only at hSw); go_simp; try with_reducible rfl)
        try simp only [Act.put, List.setIfInBounds_toArray, List.set_cons_zero, List.set_cons_succ]
        refine wpAnyH_take (i := 2) (v := ?_) (by simp only [List.getElem?_toArray, List.getElem?_cons_succ, List.getElem?_cons_zero]; exact rfl) (by kernel_rfl) (by kernel_rfl) (by kernel_rfl) (fun _ _ _ h => h) (Or.inl ⟨by rfl, ?_⟩) (by assumption) ?_
        rotate_left 1
        · (intro w hSw; (try dsimp only at hSw); go_simp; try with_reducible rfl)
        try simp only [Act.put, List.setIfInBounds_toArray, List.set_cons_zero, List.set_cons_succ]
        refine wpAnyH_take (i := 3) (v := ?_) (by simp only [List.getElem?_toArray, List.getElem?_cons_succ, List.getElem?_cons_zero]; exact rfl) (by kernel_rfl) (by kernel_rfl) (by kernel_rfl) (fun _ _ _ h => h) (Or.inl ⟨by rfl, ?_⟩) (by assumption) ?_
        rotate_left 1
        · (intro w hSw; (try dsimp only at hSw); go_simp; try with_reducible rfl)
        try simp only [Act.put, List.setIfInBounds_toArray, List.set_cons_zero, List.set_cons_succ]
        refine wpAnyH_take (i := 4) (v := ?_) (by simp only [List.getElem?_toArray, List.getElem?_cons_succ, List.getElem?_cons_zero]; exact rfl) (by kernel_rfl) (by kernel_rfl) (by kernel_rfl) (fun _ _ _ h => h) (Or.inl ⟨by rfl, ?_⟩) (by assumption) ?_
        rotate_left 1
        · (intro w hSw; (try dsimp only at hSw); go_simp; try with_reducible rfl)
        try simp only [Act.put, List.setIfInBounds_toArray, List.set_cons_zero, List.set_cons_succ]
        refine wpAnyH_take (i := 5) (v := ?_) (by simp only [List.getElem?_toArray, List.getElem?_cons_succ, List.getElem?_cons_zero]; exact rfl) (by kernel_rfl) (by kernel_rfl) (by kernel_rfl) (fun _ _ _ h => h) (Or.inl ⟨by rfl, ?_⟩) (by assumption) ?_
        rotate_left 1
        · (intro w hSw; (try dsimp only at hSw); go_simp; try with_reducible rfl)
        try simp only [Act.put, List.setIfInBounds_toArray, List.set_cons_zero, List.set_cons_succ]
        refine wpAnyH_take (i := 6) (v := ?_) (by simp only [List.getElem?_toArray, List.getElem?_cons_succ, List.getElem?_cons_zero]; exact rfl) (by kernel_rfl) (by kernel_rfl) (by kernel_rfl) (fun _ _ _ h => h) (Or.inl ⟨by rfl, ?_⟩) (by assumption) ?_
        rotate_left 1
        · (intro w hSw; (try dsimp only at hSw); go_simp; try with_reducible rfl)
        try simp only [Act.put, List.setIfInBounds_toArray, List.set_cons_zero, List.set_cons_succ]
        refine wpAnyH_take (i := 7) (v := ?_) (by simp only [List.getElem?_toArray, List.getElem?_cons_succ, List.getElem?_cons_zero]; exact rfl) (by kernel_rfl) (by kernel_rfl) (by kernel_rfl) (fun _ _ _ h => h) (Or.inl ⟨by rfl, ?_⟩) (by assumption) ?_
        rotate_left 1
        · (intro w hSw; (try dsimp only at hSw); go_simp; try with_reducible rfl)
        try simp only [Act.put, List.setIfInBounds_toArray, List.set_cons_zero, List.set_cons_succ]
        refine wpAnyH_take (i := 8) (v := ?_) (by simp only [List.getElem?_toArray, List.getElem?_cons_succ, List.getElem?_cons_zero]; exact rfl) (by kernel_rfl) (by kernel_rfl) (by kernel_rfl) (fun _ _ _ h => h) (Or.inl ⟨by rfl, ?_⟩) (by assumption) ?_
        rotate_left 1
        · (intro w hSw; (try dsimp only at hSw); go_simp; try with_reducible rfl)
        try simp only [Act.put, List.setIfInBounds_toArray, List.set_cons_zero, List.set_cons_succ]
        refine wpAnyH_take (i := 9) (v := ?_) (by simp only [List.getElem?_toArray, List.getElem?_cons_succ, List.getElem?_cons_zero]; exact rfl) (by kernel_rfl) (by kernel_rfl) (by kernel_rfl) (fun _ _ _ h => h) (Or.inl ⟨by rfl, ?_⟩) (by assumption) ?_
        rotate_left 1
        · (intro w hSw; (try dsimp only at hSw); go_simp; try with_reducible rfl)
        try simp only [Act.put, List.setIfInBounds_toArray, List.set_cons_zero, List.set_cons_succ]
        refine wpAnyH_take (i := 10) (v := ?_) (by simp only [List.getElem?_toArray, List.getElem?_cons_succ, List.getElem?_cons_zero]; exact rfl) (by kernel_rfl) (by kernel_rfl) (by kernel_rfl) (fun _ _ _ h => h) (Or.inl ⟨by rfl, ?_⟩) (by assumption) ?_
        rotate_left 1
        · (intro w hSw; (try dsimp only at hSw); go_simp; try with_reducible rfl)
        try simp only [Act.put, List.setIfInBounds_toArray, List.set_cons_zero, List.set_cons_succ]
        refine wpAnyH_done (by kernel_rfl) ?_ _
        refine NoPanic.normal ?_
        have HX := Lib.hid hHeld.2.2.2.2
        clear hHeld
        go_wp2
        go_roundw
        case rel => exact ⟨k + 1, by omega, by go_num, HX.out⟩
        case measure => simp [intOf]; omega
      · have z1 : ¬ (k : Int) < (n : Int) := by omega
        have z2 : decide ((k : Int) < (n : Int)) = false := decide_eq_false z1
        have HX := Lib.hid hB
        clear hB
        go_wp2
        go_ret
        exact ⟨rfl, HB.out.trans (HX.out.mono HB.out.size)⟩)
end Go.Proofs.YtfemgkamgokjcaaDoor
