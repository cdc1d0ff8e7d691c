/- RecordOfs. -/
import Derived.Test.YtfemgkamgokjcaaDoorK5
import Derived.Test.YtfemgkamgokjcaaDoorK6
set_option linter.unusedSimpArgs false
set_option maxRecDepth 100000
set_option linter.unusedVariables false
namespace Go.Proofs.YtfemgkamgokjcaaDoor
open Go Go.RowKit Go.Shelf

attribute [-go_sem] Sha.exec_store
/-- Two records of the same bytes. -/
theorem of_pair {w1 w2 : World} {p : S8} {l : By} {t c : Int} {f : Nat → Int} {X : Int} {x y : Rc} (hl : l.length < 1000000) (h1 : OfPost w1 p l t c f X x) (h2 : OfPost w2 p l t c f X y) :
    ∃ ds, y = x.mov y.q y.cap ∧ DgAt w1 x ds ∧ DgAt w2 y ds ∧ ds.length < 100000 ∧ (X = 0 → x.path = p ∧ x.size = (l.length : Int) ∧ x.time = t ∧ x.chg = c ∧ x.ver = f ∧ x.dead = false ∧ x.whole = digL l ∧ ds = digs l) := by
  unfold OfPost at h1 h2
  by_cases hX : X = 0
  · rw [if_pos hX] at h1 h2
    obtain ⟨a1, a2, a3, a4, a5, a6, a7, d1, e1, a8⟩ := h1
    obtain ⟨b1, b2, b3, b4, b5, b6, b7, d2, e2, b8⟩ := h2
    subst e1 e2
    refine ⟨_, ?_, a8, b8, by rw [digs_len]; unfold nblk; omega, fun _ => ⟨a1, a2, a3, a4, a5, a6, a7, rfl⟩⟩
    have n1 := a8.n
    have n2 := b8.n
    obtain ⟨xp, xs, xt, xc, xf, xd, xw, xq, xn, xcap⟩ := x
    obtain ⟨yp, ys, yt, yc, yf, yd, yw, yq, yn, ycap⟩ := y
    dsimp only [Rc.mov] at *
    subst a1 a2 a3 a4 a5 a6 a7 b1 b2 b3 b4 b5 b6 b7
    rw [n1, n2]
  · rw [if_neg hX] at h1 h2
    subst h1 h2
    exact ⟨[], rfl, dg_nil _ _ rfl rfl rfl z32_len, dg_nil _ _ rfl rfl rfl z32_len, by decide, fun h => absurd h hX⟩
theorem gnR_dg (w : World) (p : S8) (t c : Int) (f : Nat → Int) : DgAt w (gnR p t c f) [] ∧ (gnR p t c f).mov (gnR p t c f).q (gnR p t c f).cap = gnR p t c f ∧ (gnR p t c f).whole.length = 32 ∧ (gnR p t c f).path.length ≤ p.length := by
  refine ⟨?_, rfl, ?_, ?_⟩
  · unfold gnR
    split <;> exact dg_nil _ _ rfl rfl rfl z32_len
  · unfold gnR
    split <;> exact z32_len
  · unfold gnR
    split
    · exact Nat.le_refl _
    · exact Nat.zero_le _
theorem rfE_gone {p : S8} {n : Nat} {t c : Int} {f : Nat → Int} (h : rfE p (n : Int) t c f = 0) : rfE p 0 t c f = 0 := by
  obtain ⟨h1, h2, h3⟩ := rfE_zero h
  have h4 := okS_iff.1 h2
  unfold rfE
  rw [if_pos h1, okS_iff.2 ⟨by omega, by omega, h4.2.2.1, h4.2.2.2⟩, h3]
  rfl
theorem st_stampN (w : World) (N : Nat) (s t c s' t' c' : Int) (hN : N = w.heap.size) : (stT 30 (.pointer (some ⟨N, 0, none⟩)) (stV s t c)).run Tryd.prog (w.alloc (.cells #[.int .i64 s', .int .i64 t', .int .i64 c'] 30)) = .ok .skip (w.alloc (.cells #[.int .i64 s, .int .i64 t, .int .i64 c] 30)) := by
  subst hN
  have h := run_storeAt_newV (P := Tryd.prog) w 30 30 #[.int .i64 s', .int .i64 t', .int .i64 c'] #[.int .i64 s, .int .i64 t, .int .i64 c] (by rw [sizeS]; rfl) rfl (by simp [Value.oneCell'])
  unfold stV
  simp only [stT, Sem.run_bind, h, Result.andThen_ok, Sem.run_pure]
theorem exec_storeS (r : Operand → Value) (dst : Option Tmp) (p v : Operand) (ty : TypeId) (pos : String) (after : Array Edge) (guard : Option (Nat × Bool)) :
    execOp r ⟨dst, .store 30 p v, ty, pos, after, guard⟩ = stT 30 (r p) (r v) := rfl
attribute [local go_sem ↓] exec_boxA exec_loadA exec_indexA exec_allocA exec_storeA exec_buildA exec_eqlA exec_neqA exec_boxV exec_loadV exec_indexV exec_allocV exec_storeV exec_buildV exec_eqlV exec_neqV
attribute [local go_sem] boxA indexA storeNewA buildA eqlA neqA boxV indexV storeNewV buildV eqlV neqV

attribute [local go_sem ↓] exec_loadS exec_boxS exec_boxP exec_boxM exec_allocP exec_allocM exec_storeP exec_storeM exec_buildP exec_buildM exec_buildS exec_load32 exec_build32 exec_eqlD exec_neqD exec_loadM exec_loadP exec_storeS
attribute [local go_sem] box_stamp boxP boxM bd32 eqlD neqD bdS3
set_option maxRecDepth 100000 in
set_option maxHeartbeats 16000000 in
theorem ofs10_any (r : Rc) (l : By) (q : Option Addr) (n cap : Nat) (w : World) (hl : l.length = n) (hs : Sl w q l) (hq : q = none → cap = 0) (hc : n ≤ cap) (hT : Tb w) :
    Calls Tryd.prog 3 #[rcV r, .slice q n cap] w fun e w' => e = .returned (.bool true) ∧ Below w.heap.size w w' := by
  have HAW := Lib.hid awake10
  obtain ⟨W1, hW1⟩ : ∃ W, w.alloc (.cells (tab 54 (rcF r)) 26) = W := ⟨_, rfl⟩
  have hB1 : Below w.heap.size w W1 := by rw [← hW1]; exact below_newD _ _
  have hR1 : Row W1 w.heap.size 26 54 (rcF r) := by rw [← hW1]; exact Row.new w _ 54 _
  have HB1 := Lib.hid hB1
  have HR1 := Lib.hid hR1
  have HSL := Lib.hid (And.intro hs (And.intro hl hq))
  have HT := Lib.hid hT
  obtain ⟨V, hV⟩ : ∃ V, rcV r = V := ⟨_, rfl⟩
  have x1 : (bxT 26 V).run Tryd.prog w = .ok (.value (.pointer (some ⟨w.heap.size, 0, none⟩))) W1 := by rw [← hV, ← hW1]; exact boxM w r
  rw [hV]
  clear hB1 hR1 hs hl hq hT hV hW1
  obtain ⟨b0, hb0⟩ : ∃ b, w.heap.size = b := ⟨_, rfl⟩
  have HB0 := Lib.hid hb0
  obtain ⟨p, s, t, c, f, d, wh, qr, nr, capr⟩ := r
  by_cases hp : p.length ≤ 200
  · by_cases hn : n ≤ 17000
    · go_enter Tryd.func3, Tryd.ntmps3
      go_wp2_with fail
      try rw [hb0]
      clear x1
      refine (HAW.out _).mono ?_
      rintro e w2 ⟨rfl, hB2⟩
      have hR2 := HR1.out.of_below hB2
      rw [hb0] at hR2
      have a0 := rc_path hR2
      have a1 := rc_size hR2
      have a2 := rc_time hR2
      have a3 := rc_chg hR2
      dsimp only at a0 a1 a2 a3
      have HR2 := Lib.hid hR2
      have hB02 := HB1.out.trans (hB2.mono HB1.out.size)
      have HB02 := Lib.hid hB02
      have hsz := mkS_size p
      have z1 : (p.length : Int) ≤ 200 := by omega
      have z1' : ¬ (200 : Int) < (p.length : Int) := by omega
      have d1 : decide ((200 : Int) < (p.length : Int)) = false := decide_eq_false z1'
      have z2 : ¬ (17000 : Int) < (n : Int) := by omega
      have d2 : decide ((17000 : Int) < (n : Int)) = false := decide_eq_false z2
      have hsz3 : w2.heap.size ≤ (w2.alloc (.cells #[] 5)).heap.size := by rw [World.size_alloc]; omega
      have hb3 := below_newR w2 (.cells #[] 5)
      have HB3 := Lib.hid hb3
      have HS3 := Lib.hid (HSL.out.1.of_below (hB02.trans (hb3.mono hB02.size)))
      have e0 := (hb3.cell (p := ⟨b0, 0, none⟩) hR2.lt).trans a0
      have e1 := (hb3.cell (p := ⟨b0, 1, none⟩) hR2.lt).trans a1
      have e2 := (hb3.cell (p := ⟨b0, 2, none⟩) hR2.lt).trans a2
      have e3 := (hb3.cell (p := ⟨b0, 3, none⟩) hR2.lt).trans a3
      clear hB2 hR2 hB02 hb3
      have hp5 : p.length < 100000 := by omega
      have hn6 : n < 1000000 := by omega
      obtain ⟨X, hX⟩ : ∃ X, rfE p (n : Int) t c f = X := ⟨_, rfl⟩
      obtain ⟨Y, hY⟩ : ∃ Y, rfE p 0 t c f = Y := ⟨_, rfl⟩
      obtain ⟨g, hg⟩ : ∃ g, gnR p t c f = g := ⟨_, rfl⟩
      have HOF := Lib.hid (fun (o : Option Addr) (co : Nat) (u : World) (h1 : Sl u o l) (h2 : n ≤ co) (h3 : Below w.heap.size w u) => of10_any p hp5 l o n co s t c f u HSL.out.2.1 h1 h2 hn6 (HT.out.on h3))
      have HRO := Lib.hid (fun (u : World) (h3 : Below w.heap.size w u) => refOf_any p hp5 l q n cap t c f u HSL.out.2.1 (HSL.out.1.of_below h3) HSL.out.2.2 hc hn6 (HT.out.on h3))
      have HGN := Lib.hid (fun u => gone_any p hp5 s t c f u)
      have HRG0 := Lib.hid (fun u => refGone_any p hp5 t c f u)
      have HDEAD := Lib.hid (fun (h : X = 0) => (show Y = 0 ∧ g = ⟨p, 0, t, c, f, true, z32, none, 0, 0⟩ ∧ goodR g = true from by
        have h1 := rfE_gone (hX.trans h)
        have h2 : g = ⟨p, 0, t, c, f, true, z32, none, 0, 0⟩ := by rw [← hg]; unfold gnR; rw [if_pos h1]
        exact ⟨by rw [← hY]; exact h1, h2, by rw [h2, goodR_gone, h1]; rfl⟩))
      have HXN := Lib.hid (fun (wh : By) (q' : Option Addr) (c' : Nat) (h : X = 0) => (show goodR ⟨p, (n : Int), t, c, f, false, wh, q', nblk n, c'⟩ = true from by rw [goodR_of, hX, h]; rfl))
      have HGD := Lib.hid (fun u => gnR_dg u p t c f)
      rw [hX] at HOF HRO
      rw [hY, hg] at HGN HRG0
      rw [hg] at HGD
      clear hX hY hg
      go_wp2_with (first
        | (refine wpl_appendL (w2.alloc (.cells #[] 5)) rfl (.tmp 29) (.tmp 30) rfl w2.heap.size (.slice (some ⟨w2.heap.size, 0, none⟩) 0 0) [] rfl (own_emptyB w2) q n cap l HSL.out.2.1 rfl HS3.out HSL.out.2.2 (by simp; omega) hsz3 ?_
           rintro v3 w3 hO3 hg3 ho3
           rw [List.nil_append] at hO3
           obtain ⟨p3, c3, rfl, hs3, hp3, hc3⟩ := hO3.shape
           have hB3 : Below w2.heap.size w2 w3 := below_gf HB3.out hg3 hsz3
           have hR3 := HR2.out.of_below hB3
           obtain ⟨W4, hW4⟩ : ∃ W, w3.alloc (.cells #[.int .i64 s, .int .i64 t, .int .i64 c] 30) = W := ⟨_, rfl⟩
           have hst4 := st_stampN w3 w3.heap.size s t c 0 0 0 rfl
           rw [hW4] at hst4
           have hB4 : Below w3.heap.size w3 W4 := by rw [← hW4]; exact below_newR _ _
           have hS4 : StAt W4 w3.heap.size 0 s t c := by rw [← hW4]; exact stamp_new w3 s t c
           have hR4 := hR3.of_below hB4
           obtain ⟨b6, hb6⟩ : ∃ b, w3.heap.size = b := ⟨_, rfl⟩
           have hll := HSL.out.2.1
           rw [hll] at hc3
           rw [hb6] at hst4 hS4
           have HF := Lib.hid (fun (u : World) (hu : Below W4.heap.size W4 u) => (show u.cell? ⟨b0, 0, none⟩ = some (.string (mkS p)) ∧ u.cell? ⟨b0, 2, none⟩ = some (.int .i64 t) ∧ u.cell? ⟨b0, 3, none⟩ = some (.int .i64 c) ∧ (ldT 22 (.pointer (some ⟨b0, 4, none⟩))).run Tryd.prog u = .ok (.value (vcV f)) u ∧ (ldT 30 (.pointer (some ⟨b6, 0, none⟩))).run Tryd.prog u = .ok (.value (stV s t c)) u from ⟨rc_path (hR4.of_below hu), rc_time (hR4.of_below hu), rc_chg (hR4.of_below hu), loadVT vtA (rc_ver (hR4.of_below hu)), ld_stamp (hS4.of_below hu)⟩))
           have HOW := Lib.hid (And.intro (hs3.of_below hB4) (And.intro hc3 hp3))
           have HB4 := Lib.hid (HB02.out.trans ((hB3.trans (hB4.mono hB3.size)).mono HB02.out.size))
           have f1 := rc_size hR3
           have f2 := rc_time hR3
           have f3 := rc_chg hR3
           dsimp only at f1 f2 f3
           obtain ⟨k0, k2, k3, kv, ks⟩ := HF.out W4 (Below.refl _ _)
           rw [hll]
           clear hO3 hg3 ho3 hs3 hp3 hB3 hR3 hB4 hS4 hR4 e0 e1 e2 e3 a0 a1 a2 a3))
      clear k0 k2 k3 kv ks f1 f2 f3
      refine (HOF.out p3 c3 W4 HOW.out.1 HOW.out.2.1 HB4.out).mono ?_
      rintro e u5 ⟨x, rfl, hB5, hP5⟩
      obtain ⟨W6, hW6⟩ : ∃ W, u5.alloc (.cells (tab 54 (rcF x)) 33) = W := ⟨_, rfl⟩
      have hst6 := storeNewP u5 u5.heap.size 33 (rcF rc0) x rfl
      rw [hW6] at hst6
      have hB6 : Below u5.heap.size u5 W6 := by rw [← hW6]; exact below_newR _ _
      have hR6 : Row W6 u5.heap.size 33 54 (rcF x) := by rw [← hW6]; exact Row.new _ _ 54 _
      obtain ⟨b7, hb7⟩ : ∃ b, u5.heap.size = b := ⟨_, rfl⟩
      rw [hb7] at hst6 hR6
      have hB46 := hB5.trans (hB6.mono hB5.size)
      have HB46 := Lib.hid hB46
      have HR6 := Lib.hid hR6
      have HP5 := Lib.hid hP5
      have HB56 := Lib.hid hB6
      obtain ⟨k0, k2, k3, kv, ks⟩ := HF.out W6 hB46
      clear hB5 hP5 hB6 hR6 hB46 hst4 hW4
      go_wp2_with fail
      clear k0 k2 k3 kv ks hst6 hW6
      refine (HGN.out _).mono ?_
      rintro e u7 ⟨rfl, hB7⟩
      obtain ⟨W8, hW8⟩ : ∃ W, u7.alloc (.cells (tab 54 (rcF g)) 33) = W := ⟨_, rfl⟩
      have hst8 := storeNewP u7 u7.heap.size 33 (rcF rc0) g rfl
      rw [hW8] at hst8
      have hB8 : Below u7.heap.size u7 W8 := by rw [← hW8]; exact below_newR _ _
      have hR8 : Row W8 u7.heap.size 33 54 (rcF g) := by rw [← hW8]; exact Row.new _ _ 54 _
      obtain ⟨b9, hb9⟩ : ∃ b, u7.heap.size = b := ⟨_, rfl⟩
      rw [hb9] at hst8 hR8
      have hB68 := hB7.trans (hB8.mono hB7.size)
      have hB48 := HB46.out.trans (hB68.mono HB46.out.size)
      have HB68 := Lib.hid hB68
      have HB48 := Lib.hid hB48
      have HR8 := Lib.hid hR8
      have hcv1 := conv_str W8 p3 l n c3 (HOW.out.1.of_below hB48) HSL.out.2.1 HOW.out.2.2
      have hcv2 := conv_str W8 q l n cap (HSL.out.1.of_below (HB4.out.trans (hB48.mono HB4.out.size))) HSL.out.2.1 HSL.out.2.2
      obtain ⟨k0, k2, k3, kv, ks⟩ := HF.out W8 hB48
      have HRO8 := Lib.hid (HRO.out W8 (HB4.out.trans (hB48.mono HB4.out.size)))
      clear hB7 hB8 hR8 hB68 hB48
      go_wp2_with fail
      clear k0 k2 k3 kv ks hst8 hW8 hcv1 hcv2
      refine HRO8.out.mono ?_
      rintro e u9 ⟨y, rfl, hB9, hP9⟩
      obtain ⟨W10, hW10⟩ : ∃ W, u9.alloc (.cells (tab 54 (rcF y)) 26) = W := ⟨_, rfl⟩
      have hst10 := storeNewM u9 u9.heap.size 26 (rcF rc0) y rfl
      rw [hW10] at hst10
      have hB10 : Below u9.heap.size u9 W10 := by rw [← hW10]; exact below_newR _ _
      have hR10 : Row W10 u9.heap.size 26 54 (rcF y) := by rw [← hW10]; exact Row.new _ _ 54 _
      obtain ⟨b11, hb11⟩ : ∃ b, u9.heap.size = b := ⟨_, rfl⟩
      rw [hb11] at hst10 hR10
      have hB810 := hB9.trans (hB10.mono hB9.size)
      have hB410 := HB48.out.trans (hB810.mono HB48.out.size)
      have HB810 := Lib.hid hB810
      have HB410 := Lib.hid hB410
      have HR10 := Lib.hid hR10
      have HP9 := Lib.hid hP9
      have HB910 := Lib.hid hB10
      obtain ⟨k0, k2, k3, kv, ks⟩ := HF.out W10 hB410
      clear hB9 hP9 hB10 hR10 hB810 hB410
      go_wp2_with fail
      clear k0 k2 k3 kv ks hst10 hW10
      refine (HRG0.out _).mono ?_
      rintro e u11 ⟨rfl, hB11⟩
      obtain ⟨WF, hWF⟩ : ∃ W, u11.alloc (.cells (tab 54 (rcF g)) 26) = W := ⟨_, rfl⟩
      have hst12 := storeNewM u11 u11.heap.size 26 (rcF rc0) g rfl
      rw [hWF] at hst12
      have hB12 : Below u11.heap.size u11 WF := by rw [← hWF]; exact below_newR _ _
      have hR12 : Row WF u11.heap.size 26 54 (rcF g) := by rw [← hWF]; exact Row.new _ _ 54 _
      obtain ⟨b13, hb13⟩ : ∃ b, u11.heap.size = b := ⟨_, rfl⟩
      rw [hb13] at hst12 hR12
      have hBF10 := hB11.trans (hB12.mono hB11.size)
      have hBF8 := HB810.out.trans (hBF10.mono HB810.out.size)
      have hBF6 := HB68.out.trans (hBF8.mono HB68.out.size)
      have hBF4 := HB46.out.trans (hBF6.mono HB46.out.size)
      have hBF := HB4.out.trans (hBF4.mono HB4.out.size)
      have HBF := Lib.hid hBF
      -- what is known of the four records
      obtain ⟨ds, hyx, hdx, hdy, hds, hX0⟩ := of_pair (by rw [HSL.out.2.1]; omega) HP5.out HP9.out
      have hdxF : DgAt WF x ds := (hdx.of_below HB56.out).of_below hBF6
      have hdyF : DgAt WF y ds := (hdy.of_below HB910.out).of_below hBF10
      have hpx : x.path.length < 100000 := by
        by_cases h : X = 0
        · rw [(hX0 h).1]; exact hp5
        · have := HP5.out; unfold OfPost at this; rw [if_neg h] at this; rw [this]; decide
      have hpg : g.path.length < 100000 := by have := (HGD.out w).2.2.2; omega
      have hwg := (HGD.out w).2.2.1
      have hmx := hyx.symm
      have HRX := Lib.hid (fun u => ref10_any x hdx.whole u)
      have HRG := Lib.hid (fun u => ref10_any g hwg u)
      have HSX := Lib.hid (fun (u : World) (hu : Below WF.heap.size WF u) => refSame_yes x y.q y.cap ds u (hdxF.of_below hu) (by rw [hmx]; exact hdyF.of_below hu) hds)
      rw [hmx] at HSX
      have HSG := Lib.hid (fun (u : World) (hu : Below WF.heap.size WF u) => refSame_yes g g.q g.cap [] u (HGD.out u).1 (by rw [(HGD.out u).2.1]; exact (HGD.out u).1) (by decide))
      rw [(HGD.out w).2.1] at HSG
      have HGX := Lib.hid (fun u => good10_any x hpx hdx.whole u)
      have HGG := Lib.hid (fun u => good10_any g hpg hwg u)
      have HRL := Lib.hid (fun (u : World) (hu : Below WF.heap.size WF u) => real_any y ds u (hdyF.of_below hu) hds)
      have HSY := Lib.hid (fun (u : World) (hu : Below WF.heap.size WF u) (q7 : Option Addr) (c7 : Nat) (hd7 : DgAt u (y.mov q7 c7) ds) => (show Calls Tryd.prog 14 #[rcV x, rcV (y.mov q7 c7)] u fun e w' => e = .returned (.bool true) ∧ Below u.heap.size u w' from by
        have e7 : x.mov q7 c7 = y.mov q7 c7 := by rw [hyx]; rfl
        rw [← e7] at hd7 ⊢
        exact same_yes x q7 c7 ds u (hdxF.of_below hu) hd7 hds))
      have HS := Lib.hid (fun (u : World) (hu : Below WF.heap.size WF u) => (show _ ∧ _ ∧ _ ∧ _ ∧ _ from ⟨loadRT rtP ((HR6.out.of_below hBF6).of_below hu), loadRT rtM ((HR10.out.of_below hBF10).of_below hu), loadRT rtP ((HR8.out.of_below hBF8).of_below hu), loadRT rtM (hR12.of_below hu), hu⟩))
      have HDX := Lib.hid (And.intro hdxF (And.intro hX0 hwg))
      clear hB11 hB12 hR12 hBF10 hBF8 hBF6 hBF4 hBF hyx hdx hdy hds hX0 hdxF hdyF hpx hpg hwg hmx
      go_wp2
      clear hst12 hWF
      refine wp_region_noPanic ?_
      refine wp_region_held_drew (S := (fun u : World => (ldT 33 (.pointer (some ⟨b7, 0, none⟩))).run Tryd.prog u = .ok (.value (rcV x)) u ∧ (ldT 26 (.pointer (some ⟨b11, 0, none⟩))).run Tryd.prog u = .ok (.value (rcV y)) u ∧ (ldT 33 (.pointer (some ⟨b9, 0, none⟩))).run Tryd.prog u = .ok (.value (rcV g)) u ∧ (ldT 26 (.pointer (some ⟨b13, 0, none⟩))).run Tryd.prog u = .ok (.value (rcV g)) u ∧ Below WF.heap.size WF u)) (by kernel_rfl) (HS.out _ (Below.refl _ _).drew) (fun hHeld => ?_)
      refine wpAnyH_take (i := 0) (v := ?_) (by simp only [List.getElem?_toArray, List.getElem?_cons_succ, List.getElem?_cons_zero]; exact rfl) (by kernel_rfl) (by kernel_rfl) (by kernel_rfl) (fun _ _ _ h => h) (Or.inl ⟨by rfl, ?_⟩) (by assumption) ?_
      rotate_left 1
      · (intro w hSw; (try dsimp only at hSw); go_simp; try with_reducible rfl)
      try simp only [Act.put, List.setIfInBounds_toArray, List.set_cons_zero, List.set_cons_succ]
      refine wpAnyH_take (i := 1) (v := ?_) (by simp only [List.getElem?_toArray, List.getElem?_cons_succ, List.getElem?_cons_zero]; exact rfl) (by kernel_rfl) (by kernel_rfl) (by kernel_rfl) (fun _ _ _ h => h) (Or.inl ⟨by rfl, ?_⟩) (by assumption) ?_
      rotate_left 1
      · (intro w hSw; (try dsimp only at hSw); go_simp; try with_reducible rfl)
      try simp only [Act.put, List.setIfInBounds_toArray, List.set_cons_zero, List.set_cons_succ]
      refine wpAnyH_take (i := 2) (v := ?_) (by simp only [List.getElem?_toArray, List.getElem?_cons_succ, List.getElem?_cons_zero]; exact rfl) (by kernel_rfl) (by kernel_rfl) (by kernel_rfl) (fun _ _ _ h => h) (Or.inl ⟨by rfl, ?_⟩) (by assumption) ?_
      rotate_left 1
      · (intro w hSw; (try dsimp only at hSw); go_simp; try with_reducible rfl)
      try simp only [Act.put, List.setIfInBounds_toArray, List.set_cons_zero, List.set_cons_succ]
      refine wpAnyH_take (i := 3) (v := ?_) (by simp only [List.getElem?_toArray, List.getElem?_cons_succ, List.getElem?_cons_zero]; exact rfl) (by kernel_rfl) (by kernel_rfl) (by kernel_rfl) (fun _ _ _ h => h) (Or.inl ⟨by rfl, ?_⟩) (by assumption) ?_
      rotate_left 1
      · (intro w hSw; (try dsimp only at hSw); go_simp; try with_reducible rfl)
      try simp only [Act.put, List.setIfInBounds_toArray, List.set_cons_zero, List.set_cons_succ]
      refine wpAnyH_take (i := 4) (v := ?_) (by simp only [List.getElem?_toArray, List.getElem?_cons_succ, List.getElem?_cons_zero]; exact rfl) (by kernel_rfl) (by kernel_rfl) (by kernel_rfl) (fun _ _ _ h => h) (Or.inl ⟨by rfl, ?_⟩) (by assumption) ?_
      rotate_left 1
      · (intro w hSw; (try dsimp only at hSw); go_simp; try with_reducible rfl)
      try simp only [Act.put, List.setIfInBounds_toArray, List.set_cons_zero, List.set_cons_succ]
      refine wpAnyH_take (i := 5) (v := ?_) (by simp only [List.getElem?_toArray, List.getElem?_cons_succ, List.getElem?_cons_zero]; exact rfl) (by kernel_rfl) (by kernel_rfl) (by kernel_rfl) (fun _ _ _ h => h) (Or.inl ⟨by rfl, ?_⟩) (by assumption) ?_
      rotate_left 1
      · (intro w hSw; (try dsimp only at hSw); go_simp; try with_reducible rfl)
      try simp only [Act.put, List.setIfInBounds_toArray, List.set_cons_zero, List.set_cons_succ]
      refine wpAnyH_take (i := 6) (v := ?_) (by simp only [List.getElem?_toArray, List.getElem?_cons_succ, List.getElem?_cons_zero]; exact rfl) (by kernel_rfl) (by kernel_rfl) (by kernel_rfl) (fun _ _ _ h => h) (Or.inl ⟨by rfl, ?_⟩) (by assumption) ?_
      rotate_left 1
      · (intro w hSw; (try dsimp only at hSw); go_simp; try with_reducible rfl)
      try simp only [Act.put, List.setIfInBounds_toArray, List.set_cons_zero, List.set_cons_succ]
      refine wpAnyH_take (i := 7) (v := ?_) (by simp only [List.getElem?_toArray, List.getElem?_cons_succ, List.getElem?_cons_zero]; exact rfl) (by kernel_rfl) (by kernel_rfl) (by kernel_rfl) (fun _ _ _ h => h) (Or.inl ⟨by rfl, ?_⟩) (by assumption) ?_
      rotate_left 1
      · (intro w hSw; (try dsimp only at hSw); go_simp; try with_reducible rfl)
      try simp only [Act.put, List.setIfInBounds_toArray, List.set_cons_zero, List.set_cons_succ]
      refine wpAnyH_take (i := 8) (v := ?_) (by simp only [List.getElem?_toArray, List.getElem?_cons_succ, List.getElem?_cons_zero]; exact rfl) (by kernel_rfl) (by kernel_rfl) (by kernel_rfl) (fun _ _ _ h => h) (Or.inl ⟨by rfl, ?_⟩) (by assumption) ?_
      rotate_left 1
      · (intro w hSw; (try dsimp only at hSw); go_simp; try with_reducible rfl)
      try simp only [Act.put, List.setIfInBounds_toArray, List.set_cons_zero, List.set_cons_succ]
      refine wpAnyH_take (i := 9) (v := ?_) (by simp only [List.getElem?_toArray, List.getElem?_cons_succ, List.getElem?_cons_zero]; exact rfl) (by kernel_rfl) (by kernel_rfl) (by kernel_rfl) (fun _ _ _ h => h) (Or.inl ⟨by rfl, ?_⟩) (by assumption) ?_
      rotate_left 1
      · (intro w hSw; (try dsimp only at hSw); go_simp; try with_reducible rfl)
      try simp only [Act.put, List.setIfInBounds_toArray, List.set_cons_zero, List.set_cons_succ]
      refine wpAnyH_take (i := 11) (v := ?_) (by simp only [List.getElem?_toArray, List.getElem?_cons_succ, List.getElem?_cons_zero]; exact rfl) (by kernel_rfl) (by kernel_rfl) (by kernel_rfl) (fun _ _ _ h => h) (Or.inl ⟨by rfl, ?_⟩) (by assumption) ?_
      rotate_left 1
      · (intro w hSw; (try dsimp only at hSw); go_simp; try with_reducible rfl)
      try simp only [Act.put, List.setIfInBounds_toArray, List.set_cons_zero, List.set_cons_succ]
      refine wpAnyH_ready (rs := [10]) (by kernel_rfl) (by simp) ?_
      refine (AllReadyH.cons (by simp only [List.getElem?_toArray, List.getElem?_cons_succ, List.getElem?_cons_zero]; exact rfl) (fun K hK => ?_) AllReadyH.nil)
      go_simp
      refine (HRX.out _).mono ?_
      rintro e vW ⟨rfl, hB⟩
      have hBz := hHeld.2.2.2.2.trans (hB.mono hHeld.2.2.2.2.size)
      go_wp2_with fail
      refine hK.out _ _ (HS.out _ hBz) (fun hHeld => ?_)
      clear hBz hB
      clear hK K
      try simp only [Act.put, List.setIfInBounds_toArray, List.set_cons_zero, List.set_cons_succ]
      refine wpAnyH_ready (rs := [12]) (by kernel_rfl) (by simp) ?_
      refine (AllReadyH.cons (by simp only [List.getElem?_toArray, List.getElem?_cons_succ, List.getElem?_cons_zero]; exact rfl) (fun K hK => ?_) AllReadyH.nil)
      go_simp
      refine (HSX.out _ hHeld.2.2.2.2).mono ?_
      rintro e vW ⟨rfl, hB⟩
      have hBz := hHeld.2.2.2.2.trans (hB.mono hHeld.2.2.2.2.size)
      go_wp2_with fail
      refine hK.out _ _ (HS.out _ hBz) (fun hHeld => ?_)
      clear hBz hB
      clear hK K
      try simp only [Act.put, List.setIfInBounds_toArray, List.set_cons_zero, List.set_cons_succ]
      refine wpAnyH_take (i := 13) (v := ?_) (by simp only [List.getElem?_toArray, List.getElem?_cons_succ, List.getElem?_cons_zero]; exact rfl) (by kernel_rfl) (by kernel_rfl) (by kernel_rfl) (fun _ _ _ h => h) (Or.inl ⟨by rfl, ?_⟩) (by assumption) ?_
      rotate_left 1
      · (intro w hSw; (try dsimp only at hSw); go_simp; try with_reducible rfl)
      try simp only [Act.put, List.setIfInBounds_toArray, List.set_cons_zero, List.set_cons_succ]
      refine wpAnyH_take (i := 14) (v := ?_) (by simp only [List.getElem?_toArray, List.getElem?_cons_succ, List.getElem?_cons_zero]; exact rfl) (by kernel_rfl) (by kernel_rfl) (by kernel_rfl) (fun _ _ _ h => h) (Or.inl ⟨by rfl, ?_⟩) (by assumption) ?_
      rotate_left 1
      · (intro w hSw; (try dsimp only at hSw); go_simp; try with_reducible rfl)
      try simp only [Act.put, List.setIfInBounds_toArray, List.set_cons_zero, List.set_cons_succ]
      refine wpAnyH_take (i := 15) (v := ?_) (by simp only [List.getElem?_toArray, List.getElem?_cons_succ, List.getElem?_cons_zero]; exact rfl) (by kernel_rfl) (by kernel_rfl) (by kernel_rfl) (fun _ _ _ h => h) (Or.inl ⟨by rfl, ?_⟩) (by assumption) ?_
      rotate_left 1
      · (intro w hSw; (try dsimp only at hSw); go_simp; try with_reducible rfl)
      try simp only [Act.put, List.setIfInBounds_toArray, List.set_cons_zero, List.set_cons_succ]
      refine wpAnyH_take (i := 16) (v := ?_) (by simp only [List.getElem?_toArray, List.getElem?_cons_succ, List.getElem?_cons_zero]; exact rfl) (by kernel_rfl) (by kernel_rfl) (by kernel_rfl) (fun _ _ _ h => h) (Or.inl ⟨by rfl, ?_⟩) (by assumption) ?_
      rotate_left 1
      · (intro w hSw; (try dsimp only at hSw); go_simp; try with_reducible rfl)
      try simp only [Act.put, List.setIfInBounds_toArray, List.set_cons_zero, List.set_cons_succ]
      refine wpAnyH_take (i := 18) (v := ?_) (by simp only [List.getElem?_toArray, List.getElem?_cons_succ, List.getElem?_cons_zero]; exact rfl) (by kernel_rfl) (by kernel_rfl) (by kernel_rfl) (fun _ _ _ h => h) (Or.inl ⟨by rfl, ?_⟩) (by assumption) ?_
      rotate_left 1
      · (intro w hSw; (try dsimp only at hSw); go_simp; try with_reducible rfl)
      try simp only [Act.put, List.setIfInBounds_toArray, List.set_cons_zero, List.set_cons_succ]
      refine wpAnyH_ready (rs := [17]) (by kernel_rfl) (by simp) ?_
      refine (AllReadyH.cons (by simp only [List.getElem?_toArray, List.getElem?_cons_succ, List.getElem?_cons_zero]; exact rfl) (fun K hK => ?_) AllReadyH.nil)
      go_simp
      refine (HRG.out _).mono ?_
      rintro e vW ⟨rfl, hB⟩
      have hBz := hHeld.2.2.2.2.trans (hB.mono hHeld.2.2.2.2.size)
      go_wp2_with fail
      refine hK.out _ _ (HS.out _ hBz) (fun hHeld => ?_)
      clear hBz hB
      clear hK K
      try simp only [Act.put, List.setIfInBounds_toArray, List.set_cons_zero, List.set_cons_succ]
      refine wpAnyH_ready (rs := [19]) (by kernel_rfl) (by simp) ?_
      refine (AllReadyH.cons (by simp only [List.getElem?_toArray, List.getElem?_cons_succ, List.getElem?_cons_zero]; exact rfl) (fun K hK => ?_) AllReadyH.nil)
      go_simp
      refine (HSG.out _ hHeld.2.2.2.2).mono ?_
      rintro e vW ⟨rfl, hB⟩
      have hBz := hHeld.2.2.2.2.trans (hB.mono hHeld.2.2.2.2.size)
      go_wp2_with fail
      refine hK.out _ _ (HS.out _ hBz) (fun hHeld => ?_)
      clear hBz hB
      clear hK K
      try simp only [Act.put, List.setIfInBounds_toArray, List.set_cons_zero, List.set_cons_succ]
      refine wpAnyH_take (i := 20) (v := ?_) (by simp only [List.getElem?_toArray, List.getElem?_cons_succ, List.getElem?_cons_zero]; exact rfl) (by kernel_rfl) (by kernel_rfl) (by kernel_rfl) (fun _ _ _ h => h) (Or.inl ⟨by rfl, ?_⟩) (by assumption) ?_
      rotate_left 1
      · (intro w hSw; (try dsimp only at hSw); go_simp; try with_reducible rfl)
      try simp only [Act.put, List.setIfInBounds_toArray, List.set_cons_zero, List.set_cons_succ]
      refine wpAnyH_take (i := 21) (v := ?_) (by simp only [List.getElem?_toArray, List.getElem?_cons_succ, List.getElem?_cons_zero]; exact rfl) (by kernel_rfl) (by kernel_rfl) (by kernel_rfl) (fun _ _ _ h => h) (Or.inl ⟨by rfl, ?_⟩) (by assumption) ?_
      rotate_left 1
      · (intro w hSw; (try dsimp only at hSw); go_simp; try with_reducible rfl)
      try simp only [Act.put, List.setIfInBounds_toArray, List.set_cons_zero, List.set_cons_succ]
      refine wpAnyH_done (by kernel_rfl) ?_ _
      refine NoPanic.normal ?_
      have hX := hHeld.2.2.2.2
      clear hHeld
      go_wp2
      by_cases hx0 : X = 0
      · obtain ⟨hdxF, hX0, hwg⟩ := HDX.out
        obtain ⟨i1, i2, i3, i4, i5, i6, i7, i8⟩ := hX0 hx0
        obtain ⟨j1, j2, j3⟩ := HDEAD.out hx0
        subst hx0
        have hBw := fun (u : World) (hu : Below WF.heap.size WF u) => HBF.out.trans (hu.mono HBF.out.size)
        have hgx : goodR x = true := by
          have := HXN.out x.whole x.q x.cap rfl
          have hxn := hdxF.n
          rw [i8, digs_len, HSL.out.2.1] at hxn
          rw [HSL.out.2.1] at i2
          obtain ⟨xp, xs, xt, xc, xf, xd, xw, xq, xn, xcap⟩ := x
          dsimp only at *
          rw [← this, i1, i2, i3, i4, i5, i6, hxn]
        rw [hgx] at HGX
        rw [j3] at HGG
        have HFX := Lib.hid (fun (u : World) (hu : Below WF.heap.size WF u) => fits_yes x l q n cap u (by rw [← i8]; exact hdxF.of_below hu) (by rw [i2, HSL.out.2.1]) i6 i7 HSL.out.2.1 (HSL.out.1.of_below (hBw u hu)) hc (by omega) (HT.out.on (hBw u hu)))
        have HBX := Lib.hid (fun (u : World) (hu : Below WF.heap.size WF u) => bad_none x l q n cap u (by rw [← i8]; exact hdxF.of_below hu) (by rw [i2, HSL.out.2.1]) HSL.out.2.1 (HSL.out.1.of_below (hBw u hu)) hc (by omega) (HT.out.on (hBw u hu)))
        have HFG := Lib.hid (fun u => fits_dead g none 0 0 u (by rw [j2]) hwg)
        have HSD := Lib.hid (fun u => (show Calls Tryd.prog 14 #[rcV x, rcV g] u fun e w' => e = .returned (.bool false) ∧ Below u.heap.size u w' from by
          have hwx := hdxF.whole
          obtain ⟨xp, xs, xt, xc, xf, xd, xw, xq, xn, xcap⟩ := x
          dsimp only at *
          rw [j2, i1, i3, i4, i5, i6]
          exact same_dead p xs 0 t c f xw z32 xq none xn 0 xcap 0 u hwx z32_len))
        clear hdxF hX0 hwg i1 i2 i3 i4 i5 i6 i7 i8 j1 j2 j3 hBw hgx
        refine wp_region_noPanic ?_
        refine wp_region_held_drew (S := (fun u : World => (ldT 33 (.pointer (some ⟨b7, 0, none⟩))).run Tryd.prog u = .ok (.value (rcV x)) u ∧ (ldT 26 (.pointer (some ⟨b11, 0, none⟩))).run Tryd.prog u = .ok (.value (rcV y)) u ∧ (ldT 33 (.pointer (some ⟨b9, 0, none⟩))).run Tryd.prog u = .ok (.value (rcV g)) u ∧ (ldT 26 (.pointer (some ⟨b13, 0, none⟩))).run Tryd.prog u = .ok (.value (rcV g)) u ∧ Below WF.heap.size WF u)) (by kernel_rfl) (HS.out _ hX.drew) (fun hHeld => ?_)
        refine wpAnyH_take (i := 0) (v := ?_) (by simp only [List.getElem?_toArray, List.getElem?_cons_succ, List.getElem?_cons_zero]; exact rfl) (by kernel_rfl) (by kernel_rfl) (by kernel_rfl) (fun _ _ _ h => h) (Or.inl ⟨by rfl, ?_⟩) (by assumption) ?_
        rotate_left 1
        · (intro w hSw; (try dsimp only at hSw); go_simp; try with_reducible rfl)
        try simp only [Act.put, List.setIfInBounds_toArray, List.set_cons_zero, List.set_cons_succ]
        refine wpAnyH_take (i := 1) (v := ?_) (by simp only [List.getElem?_toArray, List.getElem?_cons_succ, List.getElem?_cons_zero]; exact rfl) (by kernel_rfl) (by kernel_rfl) (by kernel_rfl) (fun _ _ _ h => h) (Or.inl ⟨by rfl, ?_⟩) (by assumption) ?_
        rotate_left 1
        · (intro w hSw; (try dsimp only at hSw); go_simp; try with_reducible rfl)
        try simp only [Act.put, List.setIfInBounds_toArray, List.set_cons_zero, List.set_cons_succ]
        refine wpAnyH_take (i := 2) (v := ?_) (by simp only [List.getElem?_toArray, List.getElem?_cons_succ, List.getElem?_cons_zero]; exact rfl) (by kernel_rfl) (by kernel_rfl) (by kernel_rfl) (fun _ _ _ h => h) (Or.inl ⟨by rfl, ?_⟩) (by assumption) ?_
        rotate_left 1
        · (intro w hSw; (try dsimp only at hSw); go_simp; try with_reducible rfl)
        try simp only [Act.put, List.setIfInBounds_toArray, List.set_cons_zero, List.set_cons_succ]
        refine wpAnyH_take (i := 3) (v := ?_) (by simp only [List.getElem?_toArray, List.getElem?_cons_succ, List.getElem?_cons_zero]; exact rfl) (by kernel_rfl) (by kernel_rfl) (by kernel_rfl) (fun _ _ _ h => h) (Or.inl ⟨by rfl, ?_⟩) (by assumption) ?_
        rotate_left 1
        · (intro w hSw; (try dsimp only at hSw); go_simp; try with_reducible rfl)
        try simp only [Act.put, List.setIfInBounds_toArray, List.set_cons_zero, List.set_cons_succ]
        refine wpAnyH_ready (rs := [4]) (by kernel_rfl) (by simp) ?_
        refine (AllReadyH.cons (by simp only [List.getElem?_toArray, List.getElem?_cons_succ, List.getElem?_cons_zero]; exact rfl) (fun K hK => ?_) AllReadyH.nil)
        go_simp
        refine (HGX.out _).mono ?_
        rintro e vW ⟨rfl, hB⟩
        have hBz := hHeld.2.2.2.2.trans (hB.mono hHeld.2.2.2.2.size)
        go_wp2_with fail
        refine hK.out _ _ (HS.out _ hBz) (fun hHeld => ?_)
        clear hBz hB
        clear hK K
        try simp only [Act.put, List.setIfInBounds_toArray, List.set_cons_zero, List.set_cons_succ]
        refine wpAnyH_take (i := 5) (v := ?_) (by simp only [List.getElem?_toArray, List.getElem?_cons_succ, List.getElem?_cons_zero]; exact rfl) (by kernel_rfl) (by kernel_rfl) (by kernel_rfl) (fun _ _ _ h => h) (Or.inl ⟨by rfl, ?_⟩) (by assumption) ?_
        rotate_left 1
        · (intro w hSw; (try dsimp only at hSw); go_simp; try with_reducible rfl)
        try simp only [Act.put, List.setIfInBounds_toArray, List.set_cons_zero, List.set_cons_succ]
        refine wpAnyH_take (i := 6) (v := ?_) (by simp only [List.getElem?_toArray, List.getElem?_cons_succ, List.getElem?_cons_zero]; exact rfl) (by kernel_rfl) (by kernel_rfl) (by kernel_rfl) (fun _ _ _ h => h) (Or.inl ⟨by rfl, ?_⟩) (by assumption) ?_
        rotate_left 1
        · (intro w hSw; (try dsimp only at hSw); go_simp; try with_reducible rfl)
        try simp only [Act.put, List.setIfInBounds_toArray, List.set_cons_zero, List.set_cons_succ]
        refine wpAnyH_take (i := 7) (v := ?_) (by simp only [List.getElem?_toArray, List.getElem?_cons_succ, List.getElem?_cons_zero]; exact rfl) (by kernel_rfl) (by kernel_rfl) (by kernel_rfl) (fun _ _ _ h => h) (Or.inl ⟨by rfl, ?_⟩) (by assumption) ?_
        rotate_left 1
        · (intro w hSw; (try dsimp only at hSw); go_simp; try with_reducible rfl)
        try simp only [Act.put, List.setIfInBounds_toArray, List.set_cons_zero, List.set_cons_succ]
        refine wpAnyH_ready (rs := [8]) (by kernel_rfl) (by simp) ?_
        refine (AllReadyH.cons (by simp only [List.getElem?_toArray, List.getElem?_cons_succ, List.getElem?_cons_zero]; exact rfl) (fun K hK => ?_) AllReadyH.nil)
        go_simp
        refine (HFX.out _ hHeld.2.2.2.2).mono ?_
        rintro e vW ⟨rfl, hB⟩
        have hBz := hHeld.2.2.2.2.trans (hB.mono hHeld.2.2.2.2.size)
        go_wp2_with fail
        refine hK.out _ _ (HS.out _ hBz) (fun hHeld => ?_)
        clear hBz hB
        clear hK K
        try simp only [Act.put, List.setIfInBounds_toArray, List.set_cons_zero, List.set_cons_succ]
        refine wpAnyH_take (i := 9) (v := ?_) (by simp only [List.getElem?_toArray, List.getElem?_cons_succ, List.getElem?_cons_zero]; exact rfl) (by kernel_rfl) (by kernel_rfl) (by kernel_rfl) (fun _ _ _ h => h) (Or.inl ⟨by rfl, ?_⟩) (by assumption) ?_
        rotate_left 1
        · (intro w hSw; (try dsimp only at hSw); go_simp; try with_reducible rfl)
        try simp only [Act.put, List.setIfInBounds_toArray, List.set_cons_zero, List.set_cons_succ]
        refine wpAnyH_take (i := 10) (v := ?_) (by simp only [List.getElem?_toArray, List.getElem?_cons_succ, List.getElem?_cons_zero]; exact rfl) (by kernel_rfl) (by kernel_rfl) (by kernel_rfl) (fun _ _ _ h => h) (Or.inl ⟨by rfl, ?_⟩) (by assumption) ?_
        rotate_left 1
        · (intro w hSw; (try dsimp only at hSw); go_simp; try with_reducible rfl)
        try simp only [Act.put, List.setIfInBounds_toArray, List.set_cons_zero, List.set_cons_succ]
        refine wpAnyH_take (i := 11) (v := ?_) (by simp only [List.getElem?_toArray, List.getElem?_cons_succ, List.getElem?_cons_zero]; exact rfl) (by kernel_rfl) (by kernel_rfl) (by kernel_rfl) (fun _ _ _ h => h) (Or.inl ⟨by rfl, ?_⟩) (by assumption) ?_
        rotate_left 1
        · (intro w hSw; (try dsimp only at hSw); go_simp; try with_reducible rfl)
        try simp only [Act.put, List.setIfInBounds_toArray, List.set_cons_zero, List.set_cons_succ]
        refine wpAnyH_take (i := 12) (v := ?_) (by simp only [List.getElem?_toArray, List.getElem?_cons_succ, List.getElem?_cons_zero]; exact rfl) (by kernel_rfl) (by kernel_rfl) (by kernel_rfl) (fun _ _ _ h => h) (Or.inl ⟨by rfl, ?_⟩) (by assumption) ?_
        rotate_left 1
        · (intro w hSw; (try dsimp only at hSw); go_simp; try with_reducible rfl)
        try simp only [Act.put, List.setIfInBounds_toArray, List.set_cons_zero, List.set_cons_succ]
        refine wpAnyH_ready (rs := [13]) (by kernel_rfl) (by simp) ?_
        refine (AllReadyH.cons (by simp only [List.getElem?_toArray, List.getElem?_cons_succ, List.getElem?_cons_zero]; exact rfl) (fun K hK => ?_) AllReadyH.nil)
        go_simp
        refine (HBX.out _ hHeld.2.2.2.2).mono ?_
        rintro e vW ⟨rfl, hB⟩
        have hBz := hHeld.2.2.2.2.trans (hB.mono hHeld.2.2.2.2.size)
        go_wp2_with fail
        refine hK.out _ _ (HS.out _ hBz) (fun hHeld => ?_)
        clear hBz hB
        clear hK K
        try simp only [Act.put, List.setIfInBounds_toArray, List.set_cons_zero, List.set_cons_succ]
        refine wpAnyH_take (i := 14) (v := ?_) (by simp only [List.getElem?_toArray, List.getElem?_cons_succ, List.getElem?_cons_zero]; exact rfl) (by kernel_rfl) (by kernel_rfl) (by kernel_rfl) (fun _ _ _ h => h) (Or.inl ⟨by rfl, ?_⟩) (by assumption) ?_
        rotate_left 1
        · (intro w hSw; (try dsimp only at hSw); go_simp; try with_reducible rfl)
        try simp only [Act.put, List.setIfInBounds_toArray, List.set_cons_zero, List.set_cons_succ]
        refine wpAnyH_take (i := 15) (v := ?_) (by simp only [List.getElem?_toArray, List.getElem?_cons_succ, List.getElem?_cons_zero]; exact rfl) (by kernel_rfl) (by kernel_rfl) (by kernel_rfl) (fun _ _ _ h => h) (Or.inl ⟨by rfl, ?_⟩) (by assumption) ?_
        rotate_left 1
        · (intro w hSw; (try dsimp only at hSw); go_simp; try with_reducible rfl)
        try simp only [Act.put, List.setIfInBounds_toArray, List.set_cons_zero, List.set_cons_succ]
        refine wpAnyH_take (i := 16) (v := ?_) (by simp only [List.getElem?_toArray, List.getElem?_cons_succ, List.getElem?_cons_zero]; exact rfl) (by kernel_rfl) (by kernel_rfl) (by kernel_rfl) (fun _ _ _ h => h) (Or.inl ⟨by rfl, ?_⟩) (by assumption) ?_
        rotate_left 1
        · (intro w hSw; (try dsimp only at hSw); go_simp; try with_reducible rfl)
        try simp only [Act.put, List.setIfInBounds_toArray, List.set_cons_zero, List.set_cons_succ]
        refine wpAnyH_take (i := 17) (v := ?_) (by simp only [List.getElem?_toArray, List.getElem?_cons_succ, List.getElem?_cons_zero]; exact rfl) (by kernel_rfl) (by kernel_rfl) (by kernel_rfl) (fun _ _ _ h => h) (Or.inl ⟨by rfl, ?_⟩) (by assumption) ?_
        rotate_left 1
        · (intro w hSw; (try dsimp only at hSw); go_simp; try with_reducible rfl)
        try simp only [Act.put, List.setIfInBounds_toArray, List.set_cons_zero, List.set_cons_succ]
        refine wpAnyH_take (i := 18) (v := ?_) (by simp only [List.getElem?_toArray, List.getElem?_cons_succ, List.getElem?_cons_zero]; exact rfl) (by kernel_rfl) (by kernel_rfl) (by kernel_rfl) (fun _ _ _ h => h) (Or.inl ⟨by rfl, ?_⟩) (by assumption) ?_
        rotate_left 1
        · (intro w hSw; (try dsimp only at hSw); go_simp; try with_reducible rfl)
        try simp only [Act.put, List.setIfInBounds_toArray, List.set_cons_zero, List.set_cons_succ]
        refine wpAnyH_ready (rs := [19]) (by kernel_rfl) (by simp) ?_
        refine (AllReadyH.cons (by simp only [List.getElem?_toArray, List.getElem?_cons_succ, List.getElem?_cons_zero]; exact rfl) (fun K hK => ?_) AllReadyH.nil)
        go_simp
        refine (HGG.out _).mono ?_
        rintro e vW ⟨rfl, hB⟩
        have hBz := hHeld.2.2.2.2.trans (hB.mono hHeld.2.2.2.2.size)
        go_wp2_with fail
        refine hK.out _ _ (HS.out _ hBz) (fun hHeld => ?_)
        clear hBz hB
        clear hK K
        try simp only [Act.put, List.setIfInBounds_toArray, List.set_cons_zero, List.set_cons_succ]
        refine wpAnyH_take (i := 20) (v := ?_) (by simp only [List.getElem?_toArray, List.getElem?_cons_succ, List.getElem?_cons_zero]; exact rfl) (by kernel_rfl) (by kernel_rfl) (by kernel_rfl) (fun _ _ _ h => h) (Or.inl ⟨by rfl, ?_⟩) (by assumption) ?_
        rotate_left 1
        · (intro w hSw; (try dsimp only at hSw); go_simp; try with_reducible rfl)
        try simp only [Act.put, List.setIfInBounds_toArray, List.set_cons_zero, List.set_cons_succ]
        refine wpAnyH_take (i := 21) (v := ?_) (by simp only [List.getElem?_toArray, List.getElem?_cons_succ, List.getElem?_cons_zero]; exact rfl) (by kernel_rfl) (by kernel_rfl) (by kernel_rfl) (fun _ _ _ h => h) (Or.inl ⟨by rfl, ?_⟩) (by assumption) ?_
        rotate_left 1
        · (intro w hSw; (try dsimp only at hSw); go_simp; try with_reducible rfl)
        try simp only [Act.put, List.setIfInBounds_toArray, List.set_cons_zero, List.set_cons_succ]
        refine wpAnyH_take (i := 22) (v := ?_) (by simp only [List.getElem?_toArray, List.getElem?_cons_succ, List.getElem?_cons_zero]; exact rfl) (by kernel_rfl) (by kernel_rfl) (by kernel_rfl) (fun _ _ _ h => h) (Or.inl ⟨by rfl, ?_⟩) (by assumption) ?_
        rotate_left 1
        · (intro w hSw; (try dsimp only at hSw); go_simp; try with_reducible rfl)
        try simp only [Act.put, List.setIfInBounds_toArray, List.set_cons_zero, List.set_cons_succ]
        refine wpAnyH_ready (rs := [23]) (by kernel_rfl) (by simp) ?_
        refine (AllReadyH.cons (by simp only [List.getElem?_toArray, List.getElem?_cons_succ, List.getElem?_cons_zero]; exact rfl) (fun K hK => ?_) AllReadyH.nil)
        go_simp
        refine (HFG.out _).mono ?_
        rintro e vW ⟨rfl, hB⟩
        have hBz := hHeld.2.2.2.2.trans (hB.mono hHeld.2.2.2.2.size)
        go_wp2_with fail
        refine hK.out _ _ (HS.out _ hBz) (fun hHeld => ?_)
        clear hBz hB
        clear hK K
        try simp only [Act.put, List.setIfInBounds_toArray, List.set_cons_zero, List.set_cons_succ]
        refine wpAnyH_take (i := 24) (v := ?_) (by simp only [List.getElem?_toArray, List.getElem?_cons_succ, List.getElem?_cons_zero]; exact rfl) (by kernel_rfl) (by kernel_rfl) (by kernel_rfl) (fun _ _ _ h => h) (Or.inl ⟨by rfl, ?_⟩) (by assumption) ?_
        rotate_left 1
        · (intro w hSw; (try dsimp only at hSw); go_simp; try with_reducible rfl)
        try simp only [Act.put, List.setIfInBounds_toArray, List.set_cons_zero, List.set_cons_succ]
        refine wpAnyH_take (i := 25) (v := ?_) (by simp only [List.getElem?_toArray, List.getElem?_cons_succ, List.getElem?_cons_zero]; exact rfl) (by kernel_rfl) (by kernel_rfl) (by kernel_rfl) (fun _ _ _ h => h) (Or.inl ⟨by rfl, ?_⟩) (by assumption) ?_
        rotate_left 1
        · (intro w hSw; (try dsimp only at hSw); go_simp; try with_reducible rfl)
        try simp only [Act.put, List.setIfInBounds_toArray, List.set_cons_zero, List.set_cons_succ]
        refine wpAnyH_take (i := 26) (v := ?_) (by simp only [List.getElem?_toArray, List.getElem?_cons_succ, List.getElem?_cons_zero]; exact rfl) (by kernel_rfl) (by kernel_rfl) (by kernel_rfl) (fun _ _ _ h => h) (Or.inl ⟨by rfl, ?_⟩) (by assumption) ?_
        rotate_left 1
        · (intro w hSw; (try dsimp only at hSw); go_simp; try with_reducible rfl)
        try simp only [Act.put, List.setIfInBounds_toArray, List.set_cons_zero, List.set_cons_succ]
        refine wpAnyH_take (i := 27) (v := ?_) (by simp only [List.getElem?_toArray, List.getElem?_cons_succ, List.getElem?_cons_zero]; exact rfl) (by kernel_rfl) (by kernel_rfl) (by kernel_rfl) (fun _ _ _ h => h) (Or.inl ⟨by rfl, ?_⟩) (by assumption) ?_
        rotate_left 1
        · (intro w hSw; (try dsimp only at hSw); go_simp; try with_reducible rfl)
        try simp only [Act.put, List.setIfInBounds_toArray, List.set_cons_zero, List.set_cons_succ]
        refine wpAnyH_take (i := 28) (v := ?_) (by simp only [List.getElem?_toArray, List.getElem?_cons_succ, List.getElem?_cons_zero]; exact rfl) (by kernel_rfl) (by kernel_rfl) (by kernel_rfl) (fun _ _ _ h => h) (Or.inl ⟨by rfl, ?_⟩) (by assumption) ?_
        rotate_left 1
        · (intro w hSw; (try dsimp only at hSw); go_simp; try with_reducible rfl)
        try simp only [Act.put, List.setIfInBounds_toArray, List.set_cons_zero, List.set_cons_succ]
        refine wpAnyH_ready (rs := [29]) (by kernel_rfl) (by simp) ?_
        refine (AllReadyH.cons (by simp only [List.getElem?_toArray, List.getElem?_cons_succ, List.getElem?_cons_zero]; exact rfl) (fun K hK => ?_) AllReadyH.nil)
        go_simp
        refine (HRL.out _ hHeld.2.2.2.2).mono ?_
        rintro e vW ⟨q7, c7, rfl, hB, hD7⟩
        have hBz := hHeld.2.2.2.2.trans (hB.mono hHeld.2.2.2.2.size)
        have HD7 := Lib.hid hD7
        go_wp2_with fail
        refine hK.out _ _ (HS.out _ hBz) (fun hHeld => ?_)
        clear hBz hB
        clear hK K
        try simp only [Act.put, List.setIfInBounds_toArray, List.set_cons_zero, List.set_cons_succ]
        refine wpAnyH_ready (rs := [30]) (by kernel_rfl) (by simp) ?_
        refine (AllReadyH.cons (by simp only [List.getElem?_toArray, List.getElem?_cons_succ, List.getElem?_cons_zero]; exact rfl) (fun K hK => ?_) AllReadyH.nil)
        go_simp
        refine (HSY.out _ hHeld.2.2.2.2 q7 c7 HD7.out).mono ?_
        rintro e vW ⟨rfl, hB⟩
        have hBz := hHeld.2.2.2.2.trans (hB.mono hHeld.2.2.2.2.size)
        go_wp2_with fail
        refine hK.out _ _ (HS.out _ hBz) (fun hHeld => ?_)
        clear hBz hB
        clear hK K
        try simp only [Act.put, List.setIfInBounds_toArray, List.set_cons_zero, List.set_cons_succ]
        refine wpAnyH_take (i := 31) (v := ?_) (by simp only [List.getElem?_toArray, List.getElem?_cons_succ, List.getElem?_cons_zero]; exact rfl) (by kernel_rfl) (by kernel_rfl) (by kernel_rfl) (fun _ _ _ h => h) (Or.inl ⟨by rfl, ?_⟩) (by assumption) ?_
        rotate_left 1
        · (intro w hSw; (try dsimp only at hSw); go_simp; try with_reducible rfl)
        try simp only [Act.put, List.setIfInBounds_toArray, List.set_cons_zero, List.set_cons_succ]
        refine wpAnyH_take (i := 32) (v := ?_) (by simp only [List.getElem?_toArray, List.getElem?_cons_succ, List.getElem?_cons_zero]; exact rfl) (by kernel_rfl) (by kernel_rfl) (by kernel_rfl) (fun _ _ _ h => h) (Or.inl ⟨by rfl, ?_⟩) (by assumption) ?_
        rotate_left 1
        · (intro w hSw; (try dsimp only at hSw); go_simp; try with_reducible rfl)
        try simp only [Act.put, List.setIfInBounds_toArray, List.set_cons_zero, List.set_cons_succ]
        refine wpAnyH_take (i := 33) (v := ?_) (by simp only [List.getElem?_toArray, List.getElem?_cons_succ, List.getElem?_cons_zero]; exact rfl) (by kernel_rfl) (by kernel_rfl) (by kernel_rfl) (fun _ _ _ h => h) (Or.inl ⟨by rfl, ?_⟩) (by assumption) ?_
        rotate_left 1
        · (intro w hSw; (try dsimp only at hSw); go_simp; try with_reducible rfl)
        try simp only [Act.put, List.setIfInBounds_toArray, List.set_cons_zero, List.set_cons_succ]
        refine wpAnyH_take (i := 34) (v := ?_) (by simp only [List.getElem?_toArray, List.getElem?_cons_succ, List.getElem?_cons_zero]; exact rfl) (by kernel_rfl) (by kernel_rfl) (by kernel_rfl) (fun _ _ _ h => h) (Or.inl ⟨by rfl, ?_⟩) (by assumption) ?_
        rotate_left 1
        · (intro w hSw; (try dsimp only at hSw); go_simp; try with_reducible rfl)
        try simp only [Act.put, List.setIfInBounds_toArray, List.set_cons_zero, List.set_cons_succ]
        refine wpAnyH_ready (rs := [35]) (by kernel_rfl) (by simp) ?_
        refine (AllReadyH.cons (by simp only [List.getElem?_toArray, List.getElem?_cons_succ, List.getElem?_cons_zero]; exact rfl) (fun K hK => ?_) AllReadyH.nil)
        go_simp
        refine (HSD.out _).mono ?_
        rintro e vW ⟨rfl, hB⟩
        have hBz := hHeld.2.2.2.2.trans (hB.mono hHeld.2.2.2.2.size)
        go_wp2_with fail
        refine hK.out _ _ (HS.out _ hBz) (fun hHeld => ?_)
        clear hBz hB
        clear hK K
        try simp only [Act.put, List.setIfInBounds_toArray, List.set_cons_zero, List.set_cons_succ]
        refine wpAnyH_take (i := 36) (v := ?_) (by simp only [List.getElem?_toArray, List.getElem?_cons_succ, List.getElem?_cons_zero]; exact rfl) (by kernel_rfl) (by kernel_rfl) (by kernel_rfl) (fun _ _ _ h => h) (Or.inl ⟨by rfl, ?_⟩) (by assumption) ?_
        rotate_left 1
        · (intro w hSw; (try dsimp only at hSw); go_simp; try with_reducible rfl)
        try simp only [Act.put, List.setIfInBounds_toArray, List.set_cons_zero, List.set_cons_succ]
        refine wpAnyH_take (i := 37) (v := ?_) (by simp only [List.getElem?_toArray, List.getElem?_cons_succ, List.getElem?_cons_zero]; exact rfl) (by kernel_rfl) (by kernel_rfl) (by kernel_rfl) (fun _ _ _ h => h) (Or.inl ⟨by rfl, ?_⟩) (by assumption) ?_
        rotate_left 1
        · (intro w hSw; (try dsimp only at hSw); go_simp; try with_reducible rfl)
        try simp only [Act.put, List.setIfInBounds_toArray, List.set_cons_zero, List.set_cons_succ]
        refine wpAnyH_take (i := 38) (v := ?_) (by simp only [List.getElem?_toArray, List.getElem?_cons_succ, List.getElem?_cons_zero]; exact rfl) (by kernel_rfl) (by kernel_rfl) (by kernel_rfl) (fun _ _ _ h => h) (Or.inl ⟨by rfl, ?_⟩) (by assumption) ?_
        rotate_left 1
        · (intro w hSw; (try dsimp only at hSw); go_simp; try with_reducible rfl)
        try simp only [Act.put, List.setIfInBounds_toArray, List.set_cons_zero, List.set_cons_succ]
        refine wpAnyH_take (i := 39) (v := ?_) (by simp only [List.getElem?_toArray, List.getElem?_cons_succ, List.getElem?_cons_zero]; exact rfl) (by kernel_rfl) (by kernel_rfl) (by kernel_rfl) (fun _ _ _ h => h) (Or.inl ⟨by rfl, ?_⟩) (by assumption) ?_
        rotate_left 1
        · (intro w hSw; (try dsimp only at hSw); go_simp; try with_reducible rfl)
        try simp only [Act.put, List.setIfInBounds_toArray, List.set_cons_zero, List.set_cons_succ]
        refine wpAnyH_done (by kernel_rfl) ?_ _
        refine NoPanic.normal ?_
        go_wp2
        go_ret
        exact ⟨rfl, HBF.out.trans (hHeld.2.2.2.2.mono HBF.out.size)⟩
      · have dx : (X == 0) = false := by rw [beq_eq_false_iff_ne]; exact hx0
        have dx2 : (X != 0) = true := by rw [bne_iff_ne]; exact hx0
        clear hx0
        refine wp_region_noPanic ?_
        refine wp_region_held_drew (S := (fun u : World => (ldT 33 (.pointer (some ⟨b7, 0, none⟩))).run Tryd.prog u = .ok (.value (rcV x)) u ∧ (ldT 26 (.pointer (some ⟨b11, 0, none⟩))).run Tryd.prog u = .ok (.value (rcV y)) u ∧ (ldT 33 (.pointer (some ⟨b9, 0, none⟩))).run Tryd.prog u = .ok (.value (rcV g)) u ∧ (ldT 26 (.pointer (some ⟨b13, 0, none⟩))).run Tryd.prog u = .ok (.value (rcV g)) u ∧ Below WF.heap.size WF u)) (by kernel_rfl) (HS.out _ hX.drew) (fun hHeld => ?_)
        refine wpAnyH_take (i := 0) (v := ?_) (by simp only [List.getElem?_toArray, List.getElem?_cons_succ, List.getElem?_cons_zero]; exact rfl) (by kernel_rfl) (by kernel_rfl) (by kernel_rfl) (fun _ _ _ h => h) (Or.inl ⟨by rfl, ?_⟩) (by assumption) ?_
        rotate_left 1
        · (intro w hSw; (try dsimp only at hSw); go_simp; try with_reducible rfl)
        try simp only [Act.put, List.setIfInBounds_toArray, List.set_cons_zero, List.set_cons_succ]
        refine wpAnyH_take (i := 1) (v := ?_) (by simp only [List.getElem?_toArray, List.getElem?_cons_succ, List.getElem?_cons_zero]; exact rfl) (by kernel_rfl) (by kernel_rfl) (by kernel_rfl) (fun _ _ _ h => h) (Or.inl ⟨by rfl, ?_⟩) (by assumption) ?_
        rotate_left 1
        · (intro w hSw; (try dsimp only at hSw); go_simp; try with_reducible rfl)
        try simp only [Act.put, List.setIfInBounds_toArray, List.set_cons_zero, List.set_cons_succ]
        refine wpAnyH_take (i := 2) (v := ?_) (by simp only [List.getElem?_toArray, List.getElem?_cons_succ, List.getElem?_cons_zero]; exact rfl) (by kernel_rfl) (by kernel_rfl) (by kernel_rfl) (fun _ _ _ h => h) (Or.inl ⟨by rfl, ?_⟩) (by assumption) ?_
        rotate_left 1
        · (intro w hSw; (try dsimp only at hSw); go_simp; try with_reducible rfl)
        try simp only [Act.put, List.setIfInBounds_toArray, List.set_cons_zero, List.set_cons_succ]
        refine wpAnyH_take (i := 3) (v := undef) (by simp only [List.getElem?_toArray, List.getElem?_cons_succ, List.getElem?_cons_zero]; exact rfl) (by kernel_rfl) (by kernel_rfl) (by kernel_rfl) (fun _ _ _ h => h) (Or.inr ⟨by rfl, rfl⟩) (by assumption) ?_
        try simp only [Act.put, List.setIfInBounds_toArray, List.set_cons_zero, List.set_cons_succ]
        refine wpAnyH_take (i := 4) (v := undef) (by simp only [List.getElem?_toArray, List.getElem?_cons_succ, List.getElem?_cons_zero]; exact rfl) (by kernel_rfl) (by kernel_rfl) (by kernel_rfl) (fun _ _ _ h => h) (Or.inr ⟨by rfl, rfl⟩) (by assumption) ?_
        try simp only [Act.put, List.setIfInBounds_toArray, List.set_cons_zero, List.set_cons_succ]
        refine wpAnyH_take (i := 5) (v := undef) (by simp only [List.getElem?_toArray, List.getElem?_cons_succ, List.getElem?_cons_zero]; exact rfl) (by kernel_rfl) (by kernel_rfl) (by kernel_rfl) (fun _ _ _ h => h) (Or.inr ⟨by rfl, rfl⟩) (by assumption) ?_
        try simp only [Act.put, List.setIfInBounds_toArray, List.set_cons_zero, List.set_cons_succ]
        refine wpAnyH_take (i := 6) (v := undef) (by simp only [List.getElem?_toArray, List.getElem?_cons_succ, List.getElem?_cons_zero]; exact rfl) (by kernel_rfl) (by kernel_rfl) (by kernel_rfl) (fun _ _ _ h => h) (Or.inr ⟨by rfl, rfl⟩) (by assumption) ?_
        try simp only [Act.put, List.setIfInBounds_toArray, List.set_cons_zero, List.set_cons_succ]
        refine wpAnyH_take (i := 7) (v := undef) (by simp only [List.getElem?_toArray, List.getElem?_cons_succ, List.getElem?_cons_zero]; exact rfl) (by kernel_rfl) (by kernel_rfl) (by kernel_rfl) (fun _ _ _ h => h) (Or.inr ⟨by rfl, rfl⟩) (by assumption) ?_
        try simp only [Act.put, List.setIfInBounds_toArray, List.set_cons_zero, List.set_cons_succ]
        refine wpAnyH_take (i := 8) (v := undef) (by simp only [List.getElem?_toArray, List.getElem?_cons_succ, List.getElem?_cons_zero]; exact rfl) (by kernel_rfl) (by kernel_rfl) (by kernel_rfl) (fun _ _ _ h => h) (Or.inr ⟨by rfl, rfl⟩) (by assumption) ?_
        try simp only [Act.put, List.setIfInBounds_toArray, List.set_cons_zero, List.set_cons_succ]
        refine wpAnyH_take (i := 9) (v := undef) (by simp only [List.getElem?_toArray, List.getElem?_cons_succ, List.getElem?_cons_zero]; exact rfl) (by kernel_rfl) (by kernel_rfl) (by kernel_rfl) (fun _ _ _ h => h) (Or.inr ⟨by rfl, rfl⟩) (by assumption) ?_
        try simp only [Act.put, List.setIfInBounds_toArray, List.set_cons_zero, List.set_cons_succ]
        refine wpAnyH_take (i := 10) (v := undef) (by simp only [List.getElem?_toArray, List.getElem?_cons_succ, List.getElem?_cons_zero]; exact rfl) (by kernel_rfl) (by kernel_rfl) (by kernel_rfl) (fun _ _ _ h => h) (Or.inr ⟨by rfl, rfl⟩) (by assumption) ?_
        try simp only [Act.put, List.setIfInBounds_toArray, List.set_cons_zero, List.set_cons_succ]
        refine wpAnyH_take (i := 11) (v := undef) (by simp only [List.getElem?_toArray, List.getElem?_cons_succ, List.getElem?_cons_zero]; exact rfl) (by kernel_rfl) (by kernel_rfl) (by kernel_rfl) (fun _ _ _ h => h) (Or.inr ⟨by rfl, rfl⟩) (by assumption) ?_
        try simp only [Act.put, List.setIfInBounds_toArray, List.set_cons_zero, List.set_cons_succ]
        refine wpAnyH_take (i := 12) (v := undef) (by simp only [List.getElem?_toArray, List.getElem?_cons_succ, List.getElem?_cons_zero]; exact rfl) (by kernel_rfl) (by kernel_rfl) (by kernel_rfl) (fun _ _ _ h => h) (Or.inr ⟨by rfl, rfl⟩) (by assumption) ?_
        try simp only [Act.put, List.setIfInBounds_toArray, List.set_cons_zero, List.set_cons_succ]
        refine wpAnyH_take (i := 13) (v := undef) (by simp only [List.getElem?_toArray, List.getElem?_cons_succ, List.getElem?_cons_zero]; exact rfl) (by kernel_rfl) (by kernel_rfl) (by kernel_rfl) (fun _ _ _ h => h) (Or.inr ⟨by rfl, rfl⟩) (by assumption) ?_
        try simp only [Act.put, List.setIfInBounds_toArray, List.set_cons_zero, List.set_cons_succ]
        refine wpAnyH_take (i := 14) (v := undef) (by simp only [List.getElem?_toArray, List.getElem?_cons_succ, List.getElem?_cons_zero]; exact rfl) (by kernel_rfl) (by kernel_rfl) (by kernel_rfl) (fun _ _ _ h => h) (Or.inr ⟨by rfl, rfl⟩) (by assumption) ?_
        try simp only [Act.put, List.setIfInBounds_toArray, List.set_cons_zero, List.set_cons_succ]
        refine wpAnyH_take (i := 15) (v := undef) (by simp only [List.getElem?_toArray, List.getElem?_cons_succ, List.getElem?_cons_zero]; exact rfl) (by kernel_rfl) (by kernel_rfl) (by kernel_rfl) (fun _ _ _ h => h) (Or.inr ⟨by rfl, rfl⟩) (by assumption) ?_
        try simp only [Act.put, List.setIfInBounds_toArray, List.set_cons_zero, List.set_cons_succ]
        refine wpAnyH_take (i := 16) (v := undef) (by simp only [List.getElem?_toArray, List.getElem?_cons_succ, List.getElem?_cons_zero]; exact rfl) (by kernel_rfl) (by kernel_rfl) (by kernel_rfl) (fun _ _ _ h => h) (Or.inr ⟨by rfl, rfl⟩) (by assumption) ?_
        try simp only [Act.put, List.setIfInBounds_toArray, List.set_cons_zero, List.set_cons_succ]
        refine wpAnyH_take (i := 17) (v := undef) (by simp only [List.getElem?_toArray, List.getElem?_cons_succ, List.getElem?_cons_zero]; exact rfl) (by kernel_rfl) (by kernel_rfl) (by kernel_rfl) (fun _ _ _ h => h) (Or.inr ⟨by rfl, rfl⟩) (by assumption) ?_
        try simp only [Act.put, List.setIfInBounds_toArray, List.set_cons_zero, List.set_cons_succ]
        refine wpAnyH_take (i := 18) (v := undef) (by simp only [List.getElem?_toArray, List.getElem?_cons_succ, List.getElem?_cons_zero]; exact rfl) (by kernel_rfl) (by kernel_rfl) (by kernel_rfl) (fun _ _ _ h => h) (Or.inr ⟨by rfl, rfl⟩) (by assumption) ?_
        try simp only [Act.put, List.setIfInBounds_toArray, List.set_cons_zero, List.set_cons_succ]
        refine wpAnyH_take (i := 19) (v := undef) (by simp only [List.getElem?_toArray, List.getElem?_cons_succ, List.getElem?_cons_zero]; exact rfl) (by kernel_rfl) (by kernel_rfl) (by kernel_rfl) (fun _ _ _ h => h) (Or.inr ⟨by rfl, rfl⟩) (by assumption) ?_
        try simp only [Act.put, List.setIfInBounds_toArray, List.set_cons_zero, List.set_cons_succ]
        refine wpAnyH_take (i := 20) (v := undef) (by simp only [List.getElem?_toArray, List.getElem?_cons_succ, List.getElem?_cons_zero]; exact rfl) (by kernel_rfl) (by kernel_rfl) (by kernel_rfl) (fun _ _ _ h => h) (Or.inr ⟨by rfl, rfl⟩) (by assumption) ?_
        try simp only [Act.put, List.setIfInBounds_toArray, List.set_cons_zero, List.set_cons_succ]
        refine wpAnyH_take (i := 21) (v := undef) (by simp only [List.getElem?_toArray, List.getElem?_cons_succ, List.getElem?_cons_zero]; exact rfl) (by kernel_rfl) (by kernel_rfl) (by kernel_rfl) (fun _ _ _ h => h) (Or.inr ⟨by rfl, rfl⟩) (by assumption) ?_
        try simp only [Act.put, List.setIfInBounds_toArray, List.set_cons_zero, List.set_cons_succ]
        refine wpAnyH_take (i := 22) (v := undef) (by simp only [List.getElem?_toArray, List.getElem?_cons_succ, List.getElem?_cons_zero]; exact rfl) (by kernel_rfl) (by kernel_rfl) (by kernel_rfl) (fun _ _ _ h => h) (Or.inr ⟨by rfl, rfl⟩) (by assumption) ?_
        try simp only [Act.put, List.setIfInBounds_toArray, List.set_cons_zero, List.set_cons_succ]
        refine wpAnyH_take (i := 23) (v := undef) (by simp only [List.getElem?_toArray, List.getElem?_cons_succ, List.getElem?_cons_zero]; exact rfl) (by kernel_rfl) (by kernel_rfl) (by kernel_rfl) (fun _ _ _ h => h) (Or.inr ⟨by rfl, rfl⟩) (by assumption) ?_
        try simp only [Act.put, List.setIfInBounds_toArray, List.set_cons_zero, List.set_cons_succ]
        refine wpAnyH_take (i := 24) (v := undef) (by simp only [List.getElem?_toArray, List.getElem?_cons_succ, List.getElem?_cons_zero]; exact rfl) (by kernel_rfl) (by kernel_rfl) (by kernel_rfl) (fun _ _ _ h => h) (Or.inr ⟨by rfl, rfl⟩) (by assumption) ?_
        try simp only [Act.put, List.setIfInBounds_toArray, List.set_cons_zero, List.set_cons_succ]
        refine wpAnyH_take (i := 25) (v := undef) (by simp only [List.getElem?_toArray, List.getElem?_cons_succ, List.getElem?_cons_zero]; exact rfl) (by kernel_rfl) (by kernel_rfl) (by kernel_rfl) (fun _ _ _ h => h) (Or.inr ⟨by rfl, rfl⟩) (by assumption) ?_
        try simp only [Act.put, List.setIfInBounds_toArray, List.set_cons_zero, List.set_cons_succ]
        refine wpAnyH_take (i := 26) (v := undef) (by simp only [List.getElem?_toArray, List.getElem?_cons_succ, List.getElem?_cons_zero]; exact rfl) (by kernel_rfl) (by kernel_rfl) (by kernel_rfl) (fun _ _ _ h => h) (Or.inr ⟨by rfl, rfl⟩) (by assumption) ?_
        try simp only [Act.put, List.setIfInBounds_toArray, List.set_cons_zero, List.set_cons_succ]
        refine wpAnyH_take (i := 27) (v := undef) (by simp only [List.getElem?_toArray, List.getElem?_cons_succ, List.getElem?_cons_zero]; exact rfl) (by kernel_rfl) (by kernel_rfl) (by kernel_rfl) (fun _ _ _ h => h) (Or.inr ⟨by rfl, rfl⟩) (by assumption) ?_
        try simp only [Act.put, List.setIfInBounds_toArray, List.set_cons_zero, List.set_cons_succ]
        refine wpAnyH_take (i := 28) (v := undef) (by simp only [List.getElem?_toArray, List.getElem?_cons_succ, List.getElem?_cons_zero]; exact rfl) (by kernel_rfl) (by kernel_rfl) (by kernel_rfl) (fun _ _ _ h => h) (Or.inr ⟨by rfl, rfl⟩) (by assumption) ?_
        try simp only [Act.put, List.setIfInBounds_toArray, List.set_cons_zero, List.set_cons_succ]
        refine wpAnyH_take (i := 29) (v := undef) (by simp only [List.getElem?_toArray, List.getElem?_cons_succ, List.getElem?_cons_zero]; exact rfl) (by kernel_rfl) (by kernel_rfl) (by kernel_rfl) (fun _ _ _ h => h) (Or.inr ⟨by rfl, rfl⟩) (by assumption) ?_
        try simp only [Act.put, List.setIfInBounds_toArray, List.set_cons_zero, List.set_cons_succ]
        refine wpAnyH_take (i := 30) (v := undef) (by simp only [List.getElem?_toArray, List.getElem?_cons_succ, List.getElem?_cons_zero]; exact rfl) (by kernel_rfl) (by kernel_rfl) (by kernel_rfl) (fun _ _ _ h => h) (Or.inr ⟨by rfl, rfl⟩) (by assumption) ?_
        try simp only [Act.put, List.setIfInBounds_toArray, List.set_cons_zero, List.set_cons_succ]
        refine wpAnyH_take (i := 31) (v := undef) (by simp only [List.getElem?_toArray, List.getElem?_cons_succ, List.getElem?_cons_zero]; exact rfl) (by kernel_rfl) (by kernel_rfl) (by kernel_rfl) (fun _ _ _ h => h) (Or.inr ⟨by rfl, rfl⟩) (by assumption) ?_
        try simp only [Act.put, List.setIfInBounds_toArray, List.set_cons_zero, List.set_cons_succ]
        refine wpAnyH_take (i := 32) (v := undef) (by simp only [List.getElem?_toArray, List.getElem?_cons_succ, List.getElem?_cons_zero]; exact rfl) (by kernel_rfl) (by kernel_rfl) (by kernel_rfl) (fun _ _ _ h => h) (Or.inr ⟨by rfl, rfl⟩) (by assumption) ?_
        try simp only [Act.put, List.setIfInBounds_toArray, List.set_cons_zero, List.set_cons_succ]
        refine wpAnyH_take (i := 33) (v := undef) (by simp only [List.getElem?_toArray, List.getElem?_cons_succ, List.getElem?_cons_zero]; exact rfl) (by kernel_rfl) (by kernel_rfl) (by kernel_rfl) (fun _ _ _ h => h) (Or.inr ⟨by rfl, rfl⟩) (by assumption) ?_
        try simp only [Act.put, List.setIfInBounds_toArray, List.set_cons_zero, List.set_cons_succ]
        refine wpAnyH_take (i := 34) (v := undef) (by simp only [List.getElem?_toArray, List.getElem?_cons_succ, List.getElem?_cons_zero]; exact rfl) (by kernel_rfl) (by kernel_rfl) (by kernel_rfl) (fun _ _ _ h => h) (Or.inr ⟨by rfl, rfl⟩) (by assumption) ?_
        try simp only [Act.put, List.setIfInBounds_toArray, List.set_cons_zero, List.set_cons_succ]
        refine wpAnyH_take (i := 35) (v := undef) (by simp only [List.getElem?_toArray, List.getElem?_cons_succ, List.getElem?_cons_zero]; exact rfl) (by kernel_rfl) (by kernel_rfl) (by kernel_rfl) (fun _ _ _ h => h) (Or.inr ⟨by rfl, rfl⟩) (by assumption) ?_
        try simp only [Act.put, List.setIfInBounds_toArray, List.set_cons_zero, List.set_cons_succ]
        refine wpAnyH_take (i := 36) (v := undef) (by simp only [List.getElem?_toArray, List.getElem?_cons_succ, List.getElem?_cons_zero]; exact rfl) (by kernel_rfl) (by kernel_rfl) (by kernel_rfl) (fun _ _ _ h => h) (Or.inr ⟨by rfl, rfl⟩) (by assumption) ?_
        try simp only [Act.put, List.setIfInBounds_toArray, List.set_cons_zero, List.set_cons_succ]
        refine wpAnyH_take (i := 37) (v := undef) (by simp only [List.getElem?_toArray, List.getElem?_cons_succ, List.getElem?_cons_zero]; exact rfl) (by kernel_rfl) (by kernel_rfl) (by kernel_rfl) (fun _ _ _ h => h) (Or.inr ⟨by rfl, rfl⟩) (by assumption) ?_
        try simp only [Act.put, List.setIfInBounds_toArray, List.set_cons_zero, List.set_cons_succ]
        refine wpAnyH_take (i := 38) (v := ?_) (by simp only [List.getElem?_toArray, List.getElem?_cons_succ, List.getElem?_cons_zero]; exact rfl) (by kernel_rfl) (by kernel_rfl) (by kernel_rfl) (fun _ _ _ h => h) (Or.inl ⟨by rfl, ?_⟩) (by assumption) ?_
        rotate_left 1
        · (intro w hSw; (try dsimp only at hSw); go_simp; try with_reducible rfl)
        try simp only [Act.put, List.setIfInBounds_toArray, List.set_cons_zero, List.set_cons_succ]
        refine wpAnyH_take (i := 39) (v := ?_) (by simp only [List.getElem?_toArray, List.getElem?_cons_succ, List.getElem?_cons_zero]; exact rfl) (by kernel_rfl) (by kernel_rfl) (by kernel_rfl) (fun _ _ _ h => h) (Or.inl ⟨by rfl, ?_⟩) (by assumption) ?_
        rotate_left 1
        · (intro w hSw; (try dsimp only at hSw); go_simp; try with_reducible rfl)
        try simp only [Act.put, List.setIfInBounds_toArray, List.set_cons_zero, List.set_cons_succ]
        refine wpAnyH_done (by kernel_rfl) ?_ _
        refine NoPanic.normal ?_
        go_wp2
        go_ret
        exact ⟨rfl, HBF.out.trans (hHeld.2.2.2.2.mono HBF.out.size)⟩
    · have hz : (17000 : Int) < (n : Int) := by omega
      have hz2 : decide ((17000 : Int) < (n : Int)) = true := decide_eq_true hz
      have z1' : ¬ (200 : Int) < (p.length : Int) := by omega
      have d1 : decide ((200 : Int) < (p.length : Int)) = false := decide_eq_false z1'
      have hsz := mkS_size p
      clear hp hn
      go_enter Tryd.func3, Tryd.ntmps3
      go_wp2_with fail
      try rw [hb0]
      clear x1
      refine (HAW.out _).mono ?_
      rintro e w2 ⟨rfl, hB2⟩
      have hR2 := HR1.out.of_below hB2
      rw [hb0] at hR2
      have a0 := rc_path hR2
      dsimp only at a0
      have HB2 := Lib.hid (HB1.out.trans (hB2.mono HB1.out.size))
      clear hB2 hR2
      go_wp2_with fail
      refine (HAW.out _).mono ?_
      rintro e w3 ⟨rfl, hB3⟩
      have HB3 := Lib.hid (HB2.out.trans (hB3.mono HB2.out.size))
      clear hB3 a0
      go_wp2
      go_ret
      exact ⟨rfl, HB3.out⟩
  · have z1' : (200 : Int) < (p.length : Int) := by omega
    have d1 : decide ((200 : Int) < (p.length : Int)) = true := decide_eq_true z1'
    have hsz := mkS_size p
    clear hp
    go_enter Tryd.func3, Tryd.ntmps3
    go_wp2_with fail
    try rw [hb0]
    clear x1
    refine (HAW.out _).mono ?_
    rintro e w2 ⟨rfl, hB2⟩
    have hR2 := HR1.out.of_below hB2
    rw [hb0] at hR2
    have a0 := rc_path hR2
    dsimp only at a0
    have HB2 := Lib.hid (HB1.out.trans (hB2.mono HB1.out.size))
    clear hB2 hR2
    go_wp2_with fail
    refine (HAW.out _).mono ?_
    rintro e w3 ⟨rfl, hB3⟩
    have HB3 := Lib.hid (HB2.out.trans (hB3.mono HB2.out.size))
    clear hB3 a0
    go_wp2
    go_ret
    exact ⟨rfl, HB3.out⟩
end Go.Proofs.YtfemgkamgokjcaaDoor
