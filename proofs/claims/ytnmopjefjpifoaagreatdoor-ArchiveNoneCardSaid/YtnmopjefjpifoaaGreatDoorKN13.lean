/- Merged texts: Put10, Byp10, Byo10, Wrq11, Byt11, Pst11, Pas11, Prc11. -/
import Derived.Test.YtnmopjefjpifoaaGreatDoorKN8
import Derived.Test.YtnmopjefjpifoaaGreatDoorKN12
import Derived.Test.YtnmopjefjpifoaaGreatDoorKN4
import Derived.Test.YtnmopjefjpifoaaGreatDoorKN2
import Derived.Test.YtnmopjefjpifoaaGreatDoorKN7
import Derived.Deep.RegionHeld3
import Derived.Sort.Walk0
set_option linter.unusedSimpArgs false
set_option linter.unusedVariables false
/- record.put. -/
set_option maxRecDepth 100000
namespace Go.Proofs.YtnmopjefjpifoaaGreatDoor
open Go Go.RowKit

attribute [-go_sem] Sha.exec_store
attribute [local go_sem ↓] exec_boxA exec_loadA exec_indexA exec_allocA exec_storeA exec_buildA exec_eqlA exec_neqA exec_boxV exec_loadV exec_indexV exec_allocV exec_storeV exec_buildV exec_eqlV exec_neqV
attribute [local go_sem] boxA indexA storeNewA buildA eqlA neqA boxV indexV storeNewV buildV eqlV neqV

attribute [local go_sem ↓] exec_loadS exec_boxS exec_boxP exec_load32 exec_alloc32 exec_store32F
attribute [local go_sem] boxP st_dig
set_option maxRecDepth 100000 in
set_option maxHeartbeats 16000000 in
theorem put10_any (p : S8) (s t c : Nat) (f : Nat → Int) (d : Bool) (wh : By) (q : Option Addr) (n cap : Nat) (ds : List By) (N : Nat) (w : World) (a : Addr) (g : Option Nat) (l : By) (h : WrP N w a g l) (hD : DgAt w ⟨p, (s : Int), (t : Int), (c : Int), f, d, wh, q, n, cap⟩ ds)
    (hqN : 0 < ds.length → ∀ c o, q = some ⟨c, o, none⟩ → c < N) (hp : p.length ≤ 1000) (hs : s < 9223372036854775808) (ht : t < 9223372036854775808) (hc : c < 9223372036854775808) (hf : ∀ i, i < 16 → 0 ≤ f i ∧ f i ≤ 1099511627776) (hds : ds.length ≤ 1000) (hl : l.length < 1000) :
    Calls Tryz.prog 145 #[rcV ⟨p, (s : Int), (t : Int), (c : Int), f, d, wh, q, n, cap⟩, .pointer (some a)] w fun e w' => e = .returned (.tuple #[]) ∧ WrPost WrP N w a g (l ++ bodyRc ⟨pB p, s, t, c, f, d, wh, ds⟩) w' := by
  have hlie := wrP_lie _ _ _ _ _ h
  obtain ⟨b0, hb0⟩ : ∃ b, w.heap.size = b := ⟨_, rfl⟩
  obtain ⟨W1, hW1⟩ : ∃ W, w.alloc (.cells (tab 54 (rcF ⟨p, (s : Int), (t : Int), (c : Int), f, d, wh, q, n, cap⟩)) 44) = W := ⟨_, rfl⟩
  have hB1 : Below w.heap.size w W1 := by rw [← hW1]; exact below_newD _ _
  have hR1 : Row W1 b0 44 54 (rcF ⟨p, (s : Int), (t : Int), (c : Int), f, d, wh, q, n, cap⟩) := by rw [← hb0, ← hW1]; exact Row.new _ _ _ _
  obtain ⟨V, hV⟩ : ∃ V, rcV ⟨p, (s : Int), (t : Int), (c : Int), f, d, wh, q, n, cap⟩ = V := ⟨_, rfl⟩
  have x1 : (bxT 44 V).run Tryz.prog w = .ok (.value (.pointer (some ⟨w.heap.size, 0, none⟩))) W1 := by rw [← hV, ← hW1]; exact boxP w _
  rw [hV]
  have hD1 := hD.of_below hB1
  have HBW := Lib.hid hB1
  have HA := Lib.hid hlie
  have HP := Lib.hid (show WrPost WrP N W1 a g l W1 from ⟨g, wrP_stay _ _ _ _ _ _ h hB1.size (hB1.block _ hlie.2.1) (fun k hk => hB1.block k (hlie.2.2 k hk).2.1), fun k hk => .inl hk, Kq.refl _ _ _⟩)
  have HR := Lib.hid (fun (u : World) (hu : Kq a.block g W1 u) => (show Row u b0 44 54 (rcF ⟨p, (s : Int), (t : Int), (c : Int), f, d, wh, q, n, cap⟩) from hR1.of_block (hu.block b0 hR1.lt (by have := hlie.2.1; omega) (fun e => by have := hlie.2.2 b0 e; omega))))
  have HD := Lib.hid (fun (u : World) (hu : Kq a.block g W1 u) => (show DgAt u ⟨p, (s : Int), (t : Int), (c : Int), f, d, wh, q, n, cap⟩ ds from by
    by_cases e0 : 0 < ds.length
    · exact hD1.keep (u := u) (fun c o e hlt => hu.block c hlt (by have := hqN e0 c o e; omega) (fun e2 => by have := hqN e0 c o e; have := (hlie.2.2 c e2).1; omega))
    · have e1 : ds = [] := List.length_eq_zero_iff.1 (by omega)
      subst e1
      exact ⟨hD1.n, fun j hj => absurd hj (by simp), hD1.each, hD1.nil, hD1.le, hD1.whole⟩))
  have HX := Lib.hid (And.intro hp (And.intro hds (And.intro hl hD.n)))
  have HN := Lib.hid (And.intro hs (And.intro ht hc))
  have HF := Lib.hid hf
  have HXL := Lib.hid hD.whole
  have HPL := Lib.hid (pB_len p)
  have p9 : (128 : Nat) ^ 9 = 9223372036854775808 := by decide
  have HLEN := Lib.hid (show (enc7 (pB p).length).length ≤ 9 ∧ (pB p).length ≤ 1000 ∧ (enc7 s).length ≤ 9 ∧ (enc7 t).length ≤ 9 ∧ (enc7 c).length ≤ 9 ∧ (encV f).length ≤ 113 ∧ wh.length = 32 ∧ (enc7 n).length ≤ 9 from ⟨enc7_len 8 _ (by rw [p9, pB_len]; omega), by rw [pB_len]; exact hp, enc7_len 8 _ (by rw [p9]; exact hs), enc7_len 8 _ (by rw [p9]; exact ht), enc7_len 8 _ (by rw [p9]; exact hc), encV_len hf, hD.whole, enc7_len 8 _ (by have := hD.n; dsimp only at this; rw [p9]; omega)⟩)
  have HB0 := Lib.hid (show l.length ≤ 1000 by omega)
  clear hD hD1 hR1 hB1 hV h hp hs ht hc hf hds hl hqN hlie
  go_enter Tryz.func145, Tryz.ntmps145
  try rw [hb0]
  rw [hb0] at x1
  obtain ⟨g0, hW0, hg0, hK0⟩ := HP.out
  have hlb := HB0.out
  have af := rc_path (HR.out _ hK0)
  try dsimp only at af
  have hTX := wrP_text N W1 a g0 l (pB p) hW0 (by omega) (by have := HLEN.out; omega)
  rw [strOf_pB] at hTX
  have HTX := Lib.hid hTX
  clear hTX
  go_wp2_with fail
  clear x1 hW1
  refine (HTX.out).mono ?_
  rintro e y1 ⟨rfl, hP0⟩
  have HP := Lib.hid (WrPost.trans hg0 hK0 hP0)
  obtain ⟨L1, hL1⟩ : ∃ L, l ++ (enc7 (pB p).length ++ pB p) = L := ⟨_, rfl⟩
  have HB1 := Lib.hid (show L1.length ≤ 2009 from by rw [← hL1]; have := HLEN.out; simp only [List.length_append, List.length_cons, List.length_nil]; omega)
  have HL1 := Lib.hid hL1
  rw [hL1] at HP
  clear hW0 hg0 hK0 hP0 hL1 hlb af
  obtain ⟨g1, hW1, hg1, hK1⟩ := HP.out
  have hlb := HB1.out
  have af := rc_size (HR.out _ hK1)
  try dsimp only at af
  go_wp2_with fail

  refine (wrP_number N y1 a g1 L1 s hW1 (by omega) HN.out.1).mono ?_
  rintro e y2 ⟨rfl, hP1⟩
  have HP := Lib.hid (WrPost.trans hg1 hK1 hP1)
  obtain ⟨L2, hL2⟩ : ∃ L, L1 ++ enc7 s = L := ⟨_, rfl⟩
  have HB2 := Lib.hid (show L2.length ≤ 2018 from by rw [← hL2]; have := HLEN.out; simp only [List.length_append, List.length_cons, List.length_nil]; omega)
  have HL2 := Lib.hid hL2
  rw [hL2] at HP
  clear hW1 hg1 hK1 hP1 hL2 hlb af
  obtain ⟨g2, hW2, hg2, hK2⟩ := HP.out
  have hlb := HB2.out
  have af := rc_time (HR.out _ hK2)
  try dsimp only at af
  go_wp2_with fail

  refine (wrP_number N y2 a g2 L2 t hW2 (by omega) HN.out.2.1).mono ?_
  rintro e y3 ⟨rfl, hP2⟩
  have HP := Lib.hid (WrPost.trans hg2 hK2 hP2)
  obtain ⟨L3, hL3⟩ : ∃ L, L2 ++ enc7 t = L := ⟨_, rfl⟩
  have HB3 := Lib.hid (show L3.length ≤ 2027 from by rw [← hL3]; have := HLEN.out; simp only [List.length_append, List.length_cons, List.length_nil]; omega)
  have HL3 := Lib.hid hL3
  rw [hL3] at HP
  clear hW2 hg2 hK2 hP2 hL3 hlb af
  obtain ⟨g3, hW3, hg3, hK3⟩ := HP.out
  have hlb := HB3.out
  have af := rc_chg (HR.out _ hK3)
  try dsimp only at af
  go_wp2_with fail

  refine (wrP_number N y3 a g3 L3 c hW3 (by omega) HN.out.2.2).mono ?_
  rintro e y4 ⟨rfl, hP3⟩
  have HP := Lib.hid (WrPost.trans hg3 hK3 hP3)
  obtain ⟨L4, hL4⟩ : ∃ L, L3 ++ enc7 c = L := ⟨_, rfl⟩
  have HB4 := Lib.hid (show L4.length ≤ 2036 from by rw [← hL4]; have := HLEN.out; simp only [List.length_append, List.length_cons, List.length_nil]; omega)
  have HL4 := Lib.hid hL4
  rw [hL4] at HP
  clear hW3 hg3 hK3 hP3 hL4 hlb af
  obtain ⟨g4, hW4, hg4, hK4⟩ := HP.out
  have hlb := HB4.out
  have af := loadVT vtV <| rc_ver (HR.out _ hK4)
  try dsimp only at af
  go_wp2_with fail

  refine (put9_any f HF.out N y4 a g4 L4 hW4 (by omega)).mono ?_
  rintro e y5 ⟨rfl, hP4⟩
  have HP := Lib.hid (WrPost.trans hg4 hK4 hP4)
  obtain ⟨L5, hL5⟩ : ∃ L, L4 ++ encV f = L := ⟨_, rfl⟩
  have HB5 := Lib.hid (show L5.length ≤ 2149 from by rw [← hL5]; have := HLEN.out; simp only [List.length_append, List.length_cons, List.length_nil]; omega)
  have HL5 := Lib.hid hL5
  rw [hL5] at HP
  clear hW4 hg4 hK4 hP4 hL5 hlb af
  obtain ⟨g5, hW5, hg5, hK5⟩ := HP.out
  have hlb := HB5.out
  have af := rc_dead (HR.out _ hK5)
  try dsimp only at af
  go_wp2_with fail

  refine (wrP_truth N y5 a g5 L5 d hW5 (by omega)).mono ?_
  rintro e y6 ⟨rfl, hP5⟩
  have HP := Lib.hid (WrPost.trans hg5 hK5 hP5)
  obtain ⟨L6, hL6⟩ : ∃ L, L5 ++ [if d then 1#8 else 0#8] = L := ⟨_, rfl⟩
  have HB6 := Lib.hid (show L6.length ≤ 2150 from by rw [← hL6]; have := HLEN.out; simp only [List.length_append, List.length_cons, List.length_nil]; omega)
  have HL6 := Lib.hid hL6
  rw [hL6] at HP
  clear hW5 hg5 hK5 hP5 hL6 hlb af
  obtain ⟨g6, hW6, hg6, hK6⟩ := HP.out
  have af := rc_dead (HR.out _ hK6)
  dsimp only at af
  cases d with
  | true =>
    have hbd : l ++ bodyRc ⟨pB p, s, t, c, f, true, wh, ds⟩ = L6 := by
      unfold bodyRc
      dsimp only
      rw [← HL6.out, ← HL5.out, ← HL4.out, ← HL3.out, ← HL2.out, ← HL1.out, if_pos rfl]
      simp only [List.append_assoc, if_true]
    have HBD := Lib.hid hbd
    clear hbd hW6 hg6
    go_wp2
    ((try simp only [Exit.inBlock, Exit.then]); first | (refine bodyPost_ret (results_none rfl _ _ _) rfl ?_) | (refine bodyPost_end (results_none rfl _ _ _) rfl ?_))
    exact ⟨rfl, by rw [HBD.out]; exact WrPost.trans (fun k hk => .inl hk) (Kq.ofBelow HBW.out) HP.out⟩
  | false =>
    clear hW6 hg6 hK6
    obtain ⟨g6, hW6, hg6, hK6⟩ := HP.out
    have hlb := HB6.out
    have af := (fun h => ld_dig (rc_whole h HXL.out) HXL.out) (HR.out _ hK6)
    try dsimp only at af
    go_wp2_with fail
    refine (wrP_digest N y6 a g6 L6 wh hW6 (by omega) HXL.out).mono ?_
    rintro e y7 ⟨rfl, hP6⟩
    have HP := Lib.hid (WrPost.trans hg6 hK6 hP6)
    obtain ⟨L7, hL7⟩ : ∃ L, L6 ++ wh = L := ⟨_, rfl⟩
    have HB7 := Lib.hid (show L7.length ≤ 2182 from by rw [← hL7]; have := HLEN.out; simp only [List.length_append, List.length_cons, List.length_nil]; omega)
    have HL7 := Lib.hid hL7
    rw [hL7] at HP
    clear hW6 hg6 hK6 hP6 hL7 hlb af
    obtain ⟨g7, hW7, hg7, hK7⟩ := HP.out
    have hlb := HB7.out
    have af := rc_blocks (HR.out _ hK7)
    try dsimp only at af
    go_wp2_with fail

    refine (wrP_number N y7 a g7 L7 n hW7 (by omega) (by have := HX.out.2.2.2; have := HX.out.2.1; omega)).mono ?_
    rintro e y8 ⟨rfl, hP7⟩
    have HP := Lib.hid (WrPost.trans hg7 hK7 hP7)
    obtain ⟨L8, hL8⟩ : ∃ L, L7 ++ enc7 n = L := ⟨_, rfl⟩
    have HB8 := Lib.hid (show L8.length ≤ 2191 from by rw [← hL8]; have := HLEN.out; simp only [List.length_append, List.length_cons, List.length_nil]; omega)
    have HL8 := Lib.hid hL8
    rw [hL8] at HP
    clear hW7 hg7 hK7 hP7 hL8 hlb af
    obtain ⟨g8, hW8, hg8, hK8⟩ := HP.out
    have af := rc_blocks (HR.out _ hK8)
    dsimp only at af
    clear hW8 hg8 hK8
    go_wp2_with fail
    go_loopw [5, 47] (fun s5 si wr => ∃ i : Nat, i ≤ n ∧ si = .int .i64 (i : Int) ∧ WrPost WrP N W1 a g (L8 ++ (ds.take i).flatten) wr) (fun _ si _ => n - (intOf si).toNat)
    case atStart => exact ⟨0, Nat.zero_le _, rfl, by rw [List.take_zero, List.flatten_nil, List.append_nil]; exact HP.out⟩
    case round =>
      obtain ⟨i, hi, rfl, hPr⟩ := hrel
      have HPr := Lib.hid hPr
      clear hPr af
      have hnd : n = ds.length := HX.out.2.2.2
      by_cases hlt : i < n
      · have z1 : (i : Int) < (n : Int) := by omega
        have z2 : decide ((i : Int) < (n : Int)) = true := decide_eq_true z1
        have hil : i < ds.length := by omega
        obtain ⟨gr, hWr, hgr, hKr⟩ := HPr.out
        obtain ⟨c1, o1, e1, -, -, h32⟩ := (HD.out _ hKr).at i hil
        have hldq := (HD.out _ hKr).ldq e1 i hil
        dsimp only at e1
        have a9 := rc_blocks (HR.out _ hKr)
        dsimp only at a9
        subst e1
        have hnc : n ≤ cap := (HD.out _ hKr).le
        obtain ⟨di, hdi⟩ : ∃ x, ds.getD i [] = x := ⟨_, rfl⟩
        rw [hdi] at h32 hldq
        have htk : (ds.take (i + 1)).flatten = (ds.take i).flatten ++ di := by
          rw [← hdi, List.take_add_one, List.flatten_append, List.getElem?_eq_getElem hil, List.getD_eq_getElem?_getD, List.getElem?_eq_getElem hil]
          simp
        have htl : (L8 ++ (ds.take i).flatten).length < 1000000 := by
          have h1 := HB8.out
          have h2 := HX.out.2.1
          rw [List.length_append, flat_len32 (fun d hd => (HD.out _ hKr).each d (List.mem_of_mem_take hd)), List.length_take]
          omega
        obtain ⟨Lr, hLr⟩ : ∃ L, L8 ++ (ds.take i).flatten = L := ⟨_, rfl⟩
        rw [hLr] at hWr htl
        have HTK := Lib.hid (show L8 ++ (ds.take (i + 1)).flatten = Lr ++ di by rw [htk, ← List.append_assoc, hLr])
        obtain ⟨X1, hX1⟩ : ∃ W, wr.alloc (.cells (tab 32 (dgF di)) 41) = W := ⟨_, rfl⟩
        have hst := st_dig wr wr.heap.size di rfl
        have hBx : Below wr.heap.size wr X1 := by rw [← hX1]; exact below_newR _ _
        have hlieR := wrP_lie _ _ _ _ _ hWr
        have hWx : WrP N X1 a gr Lr := wrP_stay _ _ _ _ _ _ hWr hBx.size (hBx.block _ hlieR.2.1) (fun k hk => hBx.block k (hlieR.2.2 k hk).2.1)
        obtain ⟨bx, hbx⟩ : ∃ b, wr.heap.size = b := ⟨_, rfl⟩
        have hsl : Sl X1 (some ⟨bx, 0, none⟩) di := by
          rw [← hX1, ← hbx]
          exact ((Row.new wr 41 32 (dgF di)).fresh (base := wr.heap.size) (Nat.le_refl _) h32).sl
        have ldx := ld_dig hsl h32
        have hKx : Kq a.block g W1 X1 := hKr.trans (Kq.ofBelow (g := gr) hBx) hgr
        have HC := Lib.hid (wrP_digest N X1 a gr Lr di hWx (by omega) h32)
        have HGR := Lib.hid (And.intro hgr hKx)
        rw [hX1, hbx] at hst
        have w3 : IntKind.i64.wrap ((i : Int) + 1) = (i : Int) + 1 := by have h2 := HX.out.2.1; rw [IntKind.wrap_i64]; omega
        clear hWr hgr hKr htk htl hdi hnd hBx hlieR hWx hsl hKx hLr hil h32
        go_wp2_with fail
        refine HC.out.mono ?_
        rintro e xr ⟨rfl, hPx⟩
        have HPx := Lib.hid (WrPost.trans HGR.out.1 HGR.out.2 hPx)
        clear hPx hst ldx hldq a9 hbx hX1
        go_wp2
        go_roundw
        case rel => exact ⟨i + 1, by omega, by go_num, by rw [HTK.out]; exact HPx.out⟩
        case measure => simp [intOf]; omega
      · have z1 : ¬ (i : Int) < (n : Int) := by omega
        have z2 : decide ((i : Int) < (n : Int)) = false := decide_eq_false z1
        have hin : i = ds.length := by omega
        have hbd : l ++ bodyRc ⟨pB p, s, t, c, f, false, wh, ds⟩ = L8 ++ (ds.take i).flatten := by
          unfold bodyRc
          dsimp only
          rw [hin, List.take_length, ← HL8.out, ← HL7.out, ← HL6.out, ← HL5.out, ← HL4.out, ← HL3.out, ← HL2.out, ← HL1.out, if_neg (by simp), hnd]
          simp only [List.append_assoc, Bool.false_eq_true, if_false]
        have HBD := Lib.hid hbd
        clear hbd hin hnd
        go_wp2
        ((try simp only [Exit.inBlock, Exit.then]); first | (refine bodyPost_ret (results_none rfl _ _ _) rfl ?_) | (refine bodyPost_end (results_none rfl _ _ _) rfl ?_))
        exact ⟨rfl, by rw [HBD.out]; exact WrPost.trans (fun k hk => .inl hk) (Kq.ofBelow HBW.out) HPr.out⟩
end Go.Proofs.YtnmopjefjpifoaaGreatDoor
/- record.Bytes. -/
set_option maxRecDepth 100000
namespace Go.Proofs.YtnmopjefjpifoaaGreatDoor
open Go Go.RowKit

attribute [-go_sem] Sha.exec_store
attribute [local go_sem ↓] exec_boxP exec_loadP2 exec_bs
attribute [local go_sem] boxP bsSl
set_option maxRecDepth 100000 in
set_option maxHeartbeats 16000000 in
theorem bytes10_good (p : S8) (s t c : Nat) (f : Nat → Int) (d : Bool) (wh : By) (q : Option Addr) (n cap : Nat) (ds : List By) (w : World) (hD : DgAt w ⟨p, (s : Int), (t : Int), (c : Int), f, d, wh, q, n, cap⟩ ds)
    (hp : p.length ≤ 1000) (hs : s < 9223372036854775808) (ht : t < 9223372036854775808) (hc : c < 9223372036854775808) (hf : ∀ i, i < 16 → 0 ≤ f i ∧ f i ≤ 1099511627776) (hds : ds.length ≤ 1000) (hT : Tb w)
    (hg : goodR ⟨p, (s : Int), (t : Int), (c : Int), f, d, wh, q, n, cap⟩ = true) (hbl : (bodyRc ⟨pB p, s, t, c, f, d, wh, ds⟩).length < 1000000) :
    Calls Tryz.prog 79 #[rcV ⟨p, (s : Int), (t : Int), (c : Int), f, d, wh, q, n, cap⟩] w (GivesB w (encRc ⟨pB p, s, t, c, f, d, wh, ds⟩)) := by
  obtain ⟨b0, hb0⟩ : ∃ b, w.heap.size = b := ⟨_, rfl⟩
  obtain ⟨r, hr⟩ : ∃ r : Rc, (⟨p, (s : Int), (t : Int), (c : Int), f, d, wh, q, n, cap⟩ : Rc) = r := ⟨_, rfl⟩
  have HPT := Lib.hid (fun (N : Nat) (u : World) (a : Addr) (g : Option Nat) (l : List (BitVec 8)) (h : WrP N u a g l) (h1 : DgAt u r ds) (h2 : 0 < ds.length → ∀ c o, q = some ⟨c, o, none⟩ → c < N) (h3 : l.length < 1000) => put10_any p s t c f d wh q n cap ds N u a g l h (by rw [hr]; exact h1) h2 hp hs ht hc hf hds h3)
  have hq0 : 0 < ds.length → ∀ c o, q = some ⟨c, o, none⟩ → c < w.heap.size := fun h0 c1 o1 e => by
    obtain ⟨c2, o2, e2, h2, -⟩ := hD.at 0 h0
    dsimp only at e2
    rw [e] at e2
    injection e2 with e2
    injection e2 with e3
    omega
  have HQ0 := Lib.hid hq0
  obtain ⟨body, hbody⟩ : ∃ b, bodyRc ⟨pB p, s, t, c, f, d, wh, ds⟩ = b := ⟨_, rfl⟩
  obtain ⟨enc, henc⟩ : ∃ b, encRc ⟨pB p, s, t, c, f, d, wh, ds⟩ = b := ⟨_, rfl⟩
  have HEN := Lib.hid (show enc = body ++ digL body from by rw [← henc, ← hbody]; rfl)
  rw [hr] at hD hg HPT ⊢
  rw [hbody] at HPT hbl
  rw [henc]
  have hrp : r.path.length < 100000 := by rw [← hr]; exact Nat.lt_of_le_of_lt hp (by decide)
  clear hbody henc hr hq0
  obtain ⟨W1, hW1⟩ : ∃ W, w.alloc (.cells (tab 54 (rcF r)) 44) = W := ⟨_, rfl⟩
  have hB1 : Below w.heap.size w W1 := by rw [← hW1]; exact below_newD _ _
  have hR1 : Row W1 b0 44 54 (rcF r) := by rw [← hb0, ← hW1]; exact Row.new _ _ _ _
  have HGD := Lib.hid (fun u => good10_any r hrp hD.whole u)
  rw [hg] at HGD
  obtain ⟨V, hV⟩ : ∃ V, rcV r = V := ⟨_, rfl⟩
  have x1 : (bxT 44 V).run Tryz.prog w = .ok (.value (.pointer (some ⟨w.heap.size, 0, none⟩))) W1 := by rw [← hV, ← hW1]; exact boxP w _
  have HL := Lib.hid (fun (u : World) (hu : Below W1.heap.size W1 u) => loadRT rtP (hR1.of_below hu))
  have HD := Lib.hid (fun (u : World) (hu : Below W1.heap.size W1 u) => (hD.of_below hB1).of_below hu)
  have HB1 := Lib.hid hB1
  have HT := Lib.hid hT
  have ld := HL.out W1 (Below.refl _ _)
  rw [hV] at HGD HPT HL ld ⊢
  clear hB1 hR1 hW1 hV hD hg hT
  go_enter Tryz.func79, Tryz.ntmps79
  try rw [hb0]
  rw [hb0] at x1
  go_wp2_with fail
  refine (HGD.out _).mono ?_
  rintro e w2 ⟨rfl, hB2⟩
  clear x1 ld
  obtain ⟨W3, hW3⟩ : ∃ W, w2.alloc (.cells #[.slice none 0 0] 155) = W := ⟨_, rfl⟩
  obtain ⟨N, hN⟩ : ∃ N, w2.heap.size = N := ⟨_, rfl⟩
  have hz := wrP_zero w2.heap.size w2 (Nat.le_refl _)
  unfold zW at hz
  rw [hW3, hN] at hz
  have hB3 : Below w2.heap.size w2 W3 := by rw [← hW3]; exact below_newR _ _
  have HX3 := Lib.hid (hB2.trans (hB3.mono hB2.size))
  have hN1 : W1.heap.size ≤ N := by rw [← hN]; exact hB2.size
  have ld := HL.out W3 HX3.out
  have HZ := Lib.hid hz
  have HN := Lib.hid hN1
  clear hz hB2 hB3 hN1
  go_wp2_with fail
  clear ld hW3
  refine (HPT.out N W3 ⟨N, 0, none⟩ none [] HZ.out (HD.out _ HX3.out) (fun h0 c1 o1 e => by have := HQ0.out h0 c1 o1 e; have := HN.out; have := HB1.out.size; omega) (by decide)).mono ?_
  rintro e w4 ⟨rfl, g4, hW4, hg4, hK4⟩
  rw [List.nil_append] at hW4
  have hX4 : Below W1.heap.size W1 w4 := HX3.out.trans ⟨hK4.os, hK4.tape, hK4.output, hK4.size, fun k hk => hK4.block k (by have := HX3.out.size; omega) (by show k ≠ N; have := HN.out; omega) (by simp)⟩
  have HX4 := Lib.hid hX4
  have HW4 := Lib.hid hW4
  have HLB := Lib.hid hbl
  have HDN := Lib.hid (wrP_done N w4 ⟨N, 0, none⟩ g4 body hW4 (by omega))
  clear hW4 hg4 hK4 hX4 HPT HQ0 hbl
  go_wp2_with fail
  refine HDN.out.mono ?_
  rintro e w5 ⟨v5, rfl, hO5, hB5⟩
  obtain ⟨p5, c5, rfl, hs5, hp5, -⟩ := hO5.shape
  obtain ⟨W6, hW6⟩ : ∃ W, w5.alloc (.cells #[.slice p5 body.length c5] 53) = W := ⟨_, rfl⟩
  have hB6 : Below w5.heap.size w5 W6 := by rw [← hW6]; exact below_newR _ _
  have hc6 : W6.cell? ⟨w5.heap.size, 0, none⟩ = some (.slice p5 body.length c5) := by rw [← hW6]; exact World.cell?_alloc_new _ _ _ _
  have HX6 := Lib.hid (HX4.out.trans ((hB5.trans (hB6.mono hB5.size)).mono HX4.out.size))
  have HB46 := Lib.hid (hB5.trans (hB6.mono hB5.size))
  have HSM := Lib.hid (sum1_any body w5.heap.size 0 p5 body.length c5 W6 rfl hc6 (hs5.of_below hB6) (HT.out.on (HB1.out.trans (HX6.out.mono HB1.out.size))) (by have := HLB.out; omega))
  clear hO5 hs5 hp5 hB6 hc6 hB5 HDN
  go_wp2_with fail
  clear hW6
  refine HSM.out.mono ?_
  rintro e w7 ⟨rfl, hB7⟩
  have hB47 := HB46.out.trans (hB7.mono HB46.out.size)
  have hlie := wrP_lie _ _ _ _ _ HW4.out
  have hW7 := wrP_stay _ _ w7 _ _ _ HW4.out hB47.size (hB47.block _ hlie.2.1) (fun k hk => hB47.block k (hlie.2.2 k hk).2.1)
  have HX7 := Lib.hid (HX4.out.trans (hB47.mono HX4.out.size))
  have HDG := Lib.hid (wrP_digest N w7 ⟨N, 0, none⟩ g4 body (digL body) hW7 (by have := HLB.out; omega) (digL_len _))
  rw [← HEN.out] at HDG
  have HLE := Lib.hid (show enc.length < 1000000000 from by rw [HEN.out, List.length_append, digL_len]; have := HLB.out; omega)
  have HG4 := Lib.hid (fun k hk => (hlie.2.2 k hk).1)
  clear hB7 hB47 hW7 hlie HSM
  go_wp2_with fail
  refine HDG.out.mono ?_
  rintro e w8 ⟨rfl, g8, hW8, hg8, hK8⟩
  have hX8 : Below W1.heap.size W1 w8 := HX7.out.trans (hK8.below (show W1.heap.size ≤ N from HN.out) (fun k hk => Nat.le_trans HN.out (HG4.out k hk)) HX7.out.size)
  have HX8 := Lib.hid hX8
  have HDN := Lib.hid (wrP_done N w8 ⟨N, 0, none⟩ g8 enc hW8 HLE.out)
  clear hW8 hg8 hK8 hX8 HDG
  go_wp2_with fail
  refine HDN.out.mono ?_
  rintro e w9 ⟨v9, rfl, hO9, hB9⟩
  have HO9 := Lib.hid (show OwnB w9 w.heap.size v9 enc from hO9.lower (Nat.le_trans HB1.out.size HX8.out.size))
  have HB9 := Lib.hid (show Below w.heap.size w w9 from HB1.out.trans ((HX8.out.trans (hB9.mono HX8.out.size)).mono HB1.out.size))
  clear hO9 hB9
  go_wp2
  go_ret
  exact ⟨_, rfl, by first | exact HO9.out | (rw [← hb0]; exact HO9.out), by first | exact HB9.out | (rw [← hb0]; exact HB9.out)⟩
end Go.Proofs.YtnmopjefjpifoaaGreatDoor
/- A record's bytes, by the program and by the reference, of a record that is in order. -/
set_option maxRecDepth 100000
namespace Go.Proofs.YtnmopjefjpifoaaGreatDoor
open Go Go.RowKit
attribute [-go_sem] Sha.exec_store

theorem good_W {w : World} {r : Rc} {ds : List By} (hD : DgAt w r ds) (hg : goodR r = true) (ht : r.time < 9223372036854775808) (hc : r.chg < 9223372036854775808) : RcW (r.text ds) := by
  obtain ⟨k1, k2, k3, k4, k5, k6, -⟩ := goodR_facts hg
  exact text_W hD k1 (goodR_n hg) ⟨k2.1, by omega⟩ ⟨k3, ht⟩ ⟨k4, hc⟩ (gdV_iff.1 k5)
theorem bytes10_ok (r : Rc) (ds : List By) (w : World) (hD : DgAt w r ds) (hg : goodR r = true) (ht : r.time < 9223372036854775808) (hc : r.chg < 9223372036854775808) (hT : Tb w) :
    Calls Tryz.prog 79 #[rcV r] w (GivesB w (encRc (r.text ds))) := by
  have hW := good_W hD hg ht hc
  have hle := (encRc_len hW).1
  have hn := goodR_n hg
  have hds := hD.n
  obtain ⟨k1, k2, k3, k4, k5, k6, -⟩ := goodR_facts hg
  obtain ⟨p, s, t, c, f, d, wh, q, n, cap⟩ := r
  dsimp only at k1 k2 k3 k4 k5 hn hds ht hc
  obtain ⟨s', rfl⟩ := Int.eq_ofNat_of_zero_le k2.1
  obtain ⟨t', rfl⟩ := Int.eq_ofNat_of_zero_le k3
  obtain ⟨c', rfl⟩ := Int.eq_ofNat_of_zero_le k4
  refine bytes10_good p s' t' c' f d wh q n cap ds w hD (by omega) (by omega) (by omega) (by omega) (gdV_iff.1 k5) (by omega) hT hg ?_
  have e : encRc (Rc.text ⟨p, (s' : Int), (t' : Int), (c' : Int), f, d, wh, q, n, cap⟩ ds) = bodyRc ⟨pB p, s', t', c', f, d, wh, ds⟩ ++ digL (bodyRc ⟨pB p, s', t', c', f, d, wh, ds⟩) := rfl
  rw [e, List.length_append] at hle
  omega
end Go.Proofs.YtnmopjefjpifoaaGreatDoor
/- The program's Writer: bytes that lie in new memory; an archive's encoding, plain. -/
set_option maxRecDepth 100000
namespace Go.Proofs.YtnmopjefjpifoaaGreatDoor
open Go Go.RowKit

attribute [-go_sem] Sha.exec_store

set_option maxHeartbeats 1000000 in
theorem wrP_bytesQ (N : Nat) (w : World) (a : Addr) (g : Option Nat) (l : List (BitVec 8)) (p : Option Addr) (n cap : Nat) (bs : List (BitVec 8)) (h : WrP N w a g l) (hl : l.length < 1000000000) (hbn : bs.length = n) (hs : Sl w p bs) (hp : p = none → cap = 0) (hn : n < 1000000) (hpb : ∀ c o, p = some ⟨c, o, none⟩ → c ≠ a.block ∧ g ≠ some c) :
    Calls Tryz.prog 78 #[.pointer (some a), .slice p n cap] w fun e w' => e = .returned (.tuple #[]) ∧ WrPost WrP N w a g (l ++ (enc7 n ++ bs)) w' := by
  have hL := wrP_lie _ _ _ _ _ h
  have HN := Lib.hid (wrP_number N w a g l n h (by omega) (by omega))
  have HX := Lib.hid (And.intro hs (And.intro hp (And.intro hpb (And.intro hL (And.intro hbn hl)))))
  have HE9 := Lib.hid (show (enc7 n).length ≤ 9 from enc7_len 8 n (by rw [show (128 : Nat) ^ 9 = 9223372036854775808 by decide]; omega))
  clear h hs hp hpb hL hbn hl
  go_enter Tryz.func78, Tryz.ntmps78
  go_wp2_with fail
  refine HN.out.mono ?_
  rintro e w1 ⟨rfl, g1, ⟨b, v, rfl, k1, hc, hf, hO, hv, hgb⟩, hg1, hK1⟩
  obtain ⟨hs, hp, hpb, hL, hbn, hl⟩ := HX.out
  have hblt : b < w1.heap.size := World.block_lt_of_cell? w1 _ hc
  have HS1 := Lib.hid (show Sl w1 p bs from fun j hj => by
    obtain ⟨c, o, e, hx⟩ := hs j hj
    have hne := hpb c o e
    exact ⟨c, o, e, by rw [World.cell?_of_block (w := w) (hK1.block c (by exact World.block_lt_of_cell? w _ hx) hne.1 hne.2)]; exact hx⟩)
  have HO := Lib.hid hO
  have HV := Lib.hid (And.intro hv hgb)
  have HG := Lib.hid hg1
  have HK := Lib.hid hK1
  have hNs : N ≤ w1.heap.size := by omega
  have hlen : (l ++ enc7 n).length + n < 1000000000000 := by have := HE9.out; rw [List.length_append]; omega
  have HLEN := Lib.hid hlen
  have HP := Lib.hid (And.intro hp hbn)
  clear hs hp hpb hL hbn hl hO hv hgb hg1 hK1 hlen HN
  go_wp2_with (first | (refine wpl_appendL _ rfl (.tmp 12) (.tmp 13) rfl N v (l ++ enc7 n) rfl HO.out p n cap bs HP.out.2 rfl HS1.out HP.out.1 HLEN.out hNs ?_; rintro v3 w3 hO3 hg3 ho3
                        obtain ⟨⟨z3, f3⟩, hP3⟩ := wr_put k1 hblt (Below.refl _ _) hc hf HV.out.1 HV.out.2 hO3 hg3 ho3
                        have HP3 := Lib.hid (WrPost.trans HG.out HK.out hP3)
                        obtain ⟨p3, n3, c3, rfl⟩ := hO3.shape3
                        clear hO3 hg3 ho3 hP3))
  go_end0
  exact ⟨rfl, by rw [← List.append_assoc]; exact HP3.out⟩
/-- A record's bytes; an archive's. -/
def recB (e : Ent) : By := encRc (e.1.text e.2)
def itA (e : Ent) : By := enc7 (recB e).length ++ recB e
def itsA (L : List Ent) : By := (L.map itA).flatten
def bodyA (g : Nat) (L : List Ent) : By := (enc7 g ++ enc7 L.length) ++ itsA L
def encAr (g : Nat) (L : List Ent) : By := bodyA g L ++ digL (bodyA g L)
theorem enc7_9 {n : Nat} (h : n < 9223372036854775808) : (enc7 n).length ≤ 9 := enc7_len 8 n (by rw [show (128 : Nat) ^ 9 = 9223372036854775808 by decide]; exact h)
theorem itsA_take (L : List Ent) (s : Nat) (h : s < L.length) : itsA (L.take (s + 1)) = itsA (L.take s) ++ itA (L.getD s ent0) := by
  unfold itsA
  rw [List.take_add_one, List.map_append, List.flatten_append, List.getD_eq_getElem?_getD, List.getElem?_eq_getElem h]
  simp
theorem recB_len {e : Ent} (h : RcW (e.1.text e.2)) : (recB e).length ≤ 9000 ∧ 32 ≤ (recB e).length := encRc_len h
theorem itA_len {e : Ent} (h : RcW (e.1.text e.2)) : (itA e).length ≤ 9009 := by
  have h1 := recB_len h
  have h2 := enc7_9 (n := (recB e).length) (by omega)
  unfold itA
  rw [List.length_append]
  omega
theorem itsA_len {L : List Ent} (h : ∀ e ∈ L, RcW (e.1.text e.2)) : (itsA L).length ≤ 9009 * L.length := by
  unfold itsA
  induction L with
  | nil => simp
  | cons e l ih =>
    have h1 := itA_len (h e (List.mem_cons_self ..))
    have h2 := ih fun x hx => h x (List.mem_cons_of_mem _ hx)
    rw [List.map_cons, List.flatten_cons, List.length_append, List.length_cons]
    omega
theorem bodyA_len {g : Nat} {L : List Ent} (hg : g < 9223372036854775808) (hL : L.length ≤ 128) (h : ∀ e ∈ L, RcW (e.1.text e.2)) : (bodyA g L).length ≤ 1200000 := by
  have h1 := itsA_len h
  have h2 := enc7_9 hg
  have h3 := enc7_9 (n := L.length) (by omega)
  unfold bodyA
  rw [List.length_append, List.length_append]
  omega
end Go.Proofs.YtnmopjefjpifoaaGreatDoor
/- (*archive.Archive).Bytes. -/
set_option maxRecDepth 100000
namespace Go.Proofs.YtnmopjefjpifoaaGreatDoor
open Go Go.RowKit

attribute [-go_sem] Sha.exec_store
/-- The writer while the records are written: its buffer lies before the range, or behind what the range was given. -/
def WrI (w : World) (N NR hi : Nat) (l : By) (B : World) : Prop := N < NR ∧ NR ≤ B.heap.size ∧ Below N w B ∧ ∃ g, WrP N B ⟨N, 0, none⟩ g l ∧ ∀ k, g = some k → k < NR ∨ hi ≤ k
theorem WrI.of_below {w B B' : World} {N NR hi : Nat} {l : By} (h : WrI w N NR hi l B) (hB : Below B.heap.size B B') : WrI w N NR hi l B' := by
  obtain ⟨h1, h2, h3, g, h4, h5⟩ := h
  have hl := wrP_lie _ _ _ _ _ h4
  exact ⟨h1, Nat.le_trans h2 hB.size, h3.trans (hB.mono (by omega)), g, wrP_stay _ _ _ _ _ _ h4 hB.size (hB.block _ hl.2.1) (fun k hk => hB.block k (hl.2.2 k hk).2.1), h5⟩
theorem WrI.put {w B : World} {N NR hi k : Nat} {l : By} {o : Obj} (h : WrI w N NR hi l B) (hk : NR ≤ k) (hk2 : k < hi) (hlt : k < B.heap.size) : WrI w N NR hi l (B.putObj k o) := by
  obtain ⟨h1, h2, h3, g, h4, h5⟩ := h
  have hl := wrP_lie _ _ _ _ _ h4
  have hs : (B.putObj k o).heap.size = B.heap.size := by simp [World.putObj]
  exact ⟨h1, by rw [hs]; exact h2, h3.trans (below_putP _ (by omega) hlt), g, wrP_stay _ _ _ _ _ _ h4 (Nat.le_of_eq hs.symm) (World.putObj_heap_other (by show N ≠ k; omega)) (fun j hj => World.putObj_heap_other (by have := h5 j hj; omega)), h5⟩
/-- A step of the writer. -/
theorem WrI.step {w B B' : World} {N NR hi : Nat} {g : Option Nat} {l l' : By} (hN : N < NR) (hR : NR ≤ B.heap.size) (hhi : hi ≤ B.heap.size) (hB : Below N w B) (h4 : WrP N B ⟨N, 0, none⟩ g l) (h5 : ∀ k, g = some k → k < NR ∨ hi ≤ k) (h : WrPost WrP N B ⟨N, 0, none⟩ g l' B') :
    WrI w N NR hi l' B' ∧ KeepsOthers B B' ∧ (∀ A lo, NR ≤ lo → Fr12 A B lo hi → Fr12 A B' lo hi) := by
  obtain ⟨g', k1, k2, k3⟩ := h
  have hl := wrP_lie _ _ _ _ _ h4
  have hk5 : ∀ k, g' = some k → k < NR ∨ hi ≤ k := fun k hk => by
    rcases k2 k hk with h | h
    · exact h5 k h
    · right; omega
  refine ⟨⟨hN, Nat.le_trans hR k3.size, hB.trans (k3.below (Nat.le_refl _) (fun k hk => (hl.2.2 k hk).1) (by omega)), g', k1, hk5⟩, k3.others h4, fun A lo hlo hf => ⟨Nat.le_trans hf.1 k3.size, fun k h1 h2 => ?_⟩⟩
  rw [k3.block k (by have := hf.1; omega) (by show k ≠ N; omega) (fun e => by have := h5 k e; omega)]
  exact hf.2 k h1 h2
theorem ent_W {w : World} {b mb : Nat} {gen : Int} {es : List Ent} (hA : ArAt w b mb gen es) : ∀ e ∈ es, RcW (e.1.text e.2) ∧ e.2.length < 100000 := fun e he => by
  have hD := hA.dg e he
  have hn := goodR_n (hA.good e he)
  have := hD.n
  exact ⟨good_W hD (hA.good e he) (hA.inn e he).1 (hA.inn e he).2, by omega⟩
theorem lit_rc11 : (#[.string ⟨#[]⟩, .int .i64 0, .int .i64 0, .int .i64 0, .int .i64 0, .int .i64 0, .int .i64 0, .int .i64 0, .int .i64 0, .int .i64 0, .int .i64 0, .int .i64 0, .int .i64 0, .int .i64 0, .int .i64 0, .int .i64 0, .int .i64 0, .int .i64 0, .int .i64 0, .int .i64 0, .bool false, .int .u8 0, .int .u8 0, .int .u8 0, .int .u8 0, .int .u8 0, .int .u8 0, .int .u8 0, .int .u8 0, .int .u8 0, .int .u8 0, .int .u8 0, .int .u8 0, .int .u8 0, .int .u8 0, .int .u8 0, .int .u8 0, .int .u8 0, .int .u8 0, .int .u8 0, .int .u8 0, .int .u8 0, .int .u8 0, .int .u8 0, .int .u8 0, .int .u8 0, .int .u8 0, .int .u8 0, .int .u8 0, .int .u8 0, .int .u8 0, .int .u8 0, .int .u8 0, .slice none 0 0] : Array Value) = tab 54 (rcF rc0) := Eq.trans (by kernel_rfl) rz
theorem st_lit11 (w : World) (r : Rc) : (stT 44 (.pointer (some ⟨w.heap.size, 0, none⟩)) (rcV r)).run Tryz.prog (w.alloc (.cells #[.string ⟨#[]⟩, .int .i64 0, .int .i64 0, .int .i64 0, .int .i64 0, .int .i64 0, .int .i64 0, .int .i64 0, .int .i64 0, .int .i64 0, .int .i64 0, .int .i64 0, .int .i64 0, .int .i64 0, .int .i64 0, .int .i64 0, .int .i64 0, .int .i64 0, .int .i64 0, .int .i64 0, .bool false, .int .u8 0, .int .u8 0, .int .u8 0, .int .u8 0, .int .u8 0, .int .u8 0, .int .u8 0, .int .u8 0, .int .u8 0, .int .u8 0, .int .u8 0, .int .u8 0, .int .u8 0, .int .u8 0, .int .u8 0, .int .u8 0, .int .u8 0, .int .u8 0, .int .u8 0, .int .u8 0, .int .u8 0, .int .u8 0, .int .u8 0, .int .u8 0, .int .u8 0, .int .u8 0, .int .u8 0, .int .u8 0, .int .u8 0, .int .u8 0, .int .u8 0, .int .u8 0, .slice none 0 0] 44)) = .ok .skip (w.alloc (.cells (tab 54 (rcF r)) 44)) := by
  rw [lit_rc11]
  exact storeNewRT rtP w w.heap.size 44 (rcF rc0) r rfl
attribute [local go_sem] Oper.semAt_some st_lit11 bsSl
attribute [local go_sem ↓] exec_boxP exec_allocP exec_storeP exec_loadP exec_bs
set_option maxRecDepth 100000 in
set_option maxHeartbeats 8000000 in
theorem bytesA_any {w : World} {b mb : Nat} {es : List Ent} (g : Nat) (hA : ArAt w b mb (g : Int) es) (hg : g < 9223372036854775808) (hT : Tb w) :
    Calls Tryz.prog 29 #[.pointer (some ⟨b, 0, none⟩)] w (GivesB w (encAr g (sortA es))) := by
  refine (callsIn_wide (n := 9)).1 ?_
  refine callsIn_of_wp_marks Tryz.func29 rfl trivial ?_ rfl
  simp only [Tryz.ntmps29, List.size_toArray, List.length_cons, List.length_nil, Nat.reduceAdd, Nat.reduceSub, Array.replicate_succ, Array.replicate_zero, List.push_toArray, List.append_toArray, List.nil_append, List.cons_append]
  have hW := ent_W hA
  obtain ⟨N, hN⟩ : ∃ N, w.heap.size = N := ⟨_, rfl⟩
  obtain ⟨W1, hW1⟩ : ∃ W, w.alloc (.cells #[.slice none 0 0] 155) = W := ⟨_, rfl⟩
  have hz := wrP_zero w.heap.size w (Nat.le_refl _)
  unfold zW at hz
  rw [hW1, hN] at hz
  have hB1 : Below w.heap.size w W1 := by rw [← hW1]; exact below_newR _ _
  have hA1 := hA.of_below hB1
  have c0 := hA1.cell0
  have c1 := hA1.cell1
  have hs1 : W1.heap.size = N + 1 := by rw [← hW1, World.size_alloc, hN]
  have hlen := fun u (hu : MpB u mb (es.map entA)) ty => run_lenA (ty := ty) hu
  obtain ⟨n, hn⟩ : ∃ n, es.length = n := ⟨_, rfl⟩
  have hn128 : n ≤ 128 := by rw [← hn]; exact hA.few
  simp only [List.length_map, hn] at hlen
  have HN1 := Lib.hid (wrP_number N W1 ⟨N, 0, none⟩ none [] g hz (by decide) hg)
  rw [List.nil_append] at HN1
  have HA := Lib.hid hA
  have HA1 := Lib.hid hA1
  have HB1 := Lib.hid hB1
  have HZ := Lib.hid hz
  have HT := Lib.hid hT
  have HLEN := Lib.hid hlen
  have HW := Lib.hid hW
  have HNN := Lib.hid (And.intro hN (And.intro hs1 (And.intro hn hn128)))
  have HG := Lib.hid hg
  clear hA hA1 hB1 hz hT hW hs1 hlen hg
  gi_wp2_with (first
    | (refine ⟨trivial, ?_⟩; gi_at_call 77; refine (callsIn_wide.2 HN1.out).mono ?_
       rintro e w1 ⟨rfl, g1, hV1, hg1, hK1⟩
       have hX1 : Below N w w1 := by
         have h1 := HNN.out.1 ▸ HB1.out
         exact h1.trans (hK1.below (Nat.le_refl _) (fun k hk => by cases hk) (by have := HNN.out; omega))
       have HX1 := Lib.hid hX1
       have hA1 := HA.out.of_below (by rw [HNN.out.1]; exact hX1)
       have c2 := hA1.cell1
       have hl := HLEN.out w1 hA1.map
       have HN2 := Lib.hid (wrP_number N w1 ⟨N, 0, none⟩ g1 (enc7 g) n hV1 (by have := enc7_9 HG.out; omega) (by have := HNN.out; omega))
       have HG1 := Lib.hid (fun k hk => (wrP_lie _ _ _ _ _ hV1).2.2 k hk)
       clear hX1 hV1 hg1 hK1 hA1 HN1 c0 c1 hW1)
    | (refine ⟨trivial, ?_⟩; gi_at_call 77; refine (callsIn_wide.2 HN2.out).mono ?_
       rintro e w2 ⟨rfl, g2, hV2, hg2, hK2⟩
       have HX2 := Lib.hid (show Below N w w2 from HX1.out.trans (hK2.below (Nat.le_refl _) (fun k hk => (HG1.out k hk).1) (by have := HX1.out.size; have := HNN.out; omega)))
       have HV2 := Lib.hid hV2
       clear hV2 hg2 hK2 c2 hl)
    | (refine ⟨trivial, ?_⟩; gi_at_call 53; refine (callsIn_wide.2 (all_any _ rfl rfl _)).mono ?_; rintro e w3 ⟨rfl, rfl⟩))
  obtain ⟨hd, hhd⟩ : ∃ x, enc7 g ++ enc7 n = x := ⟨_, rfl⟩
  rw [hhd] at HV2
  have HHD := Lib.hid hhd
  obtain ⟨w3, hw3⟩ : ∃ x, w2.alloc (.cells #[.pointer (some ⟨b, 0, none⟩)] 26) = x := ⟨_, rfl⟩
  have hb3 := below_newR w2 (.cells #[.pointer (some ⟨b, 0, none⟩)] 26)
  obtain ⟨c3, -⟩ := new_cZ w2 (.pointer (some ⟨b, 0, none⟩)) 26
  obtain ⟨B2, hB2⟩ : ∃ x, w2.heap.size = x := ⟨_, rfl⟩
  have hs3 : w3.heap.size = B2 + 1 := by rw [← hw3, World.size_alloc, hB2]
  rw [hw3] at hb3 c3
  rw [hB2] at c3
  have hNB : N < B2 := by have := (wrP_lie _ _ _ _ _ HV2.out).2.1; rw [← hB2]; exact this
  obtain ⟨NR, hNR⟩ : ∃ x, w3.heap.size = x := ⟨_, rfl⟩
  have hX3 : Below N w w3 := HX2.out.trans (hb3.mono (by omega))
  have hA3 := HA.out.of_below (show Below w.heap.size w w3 by rw [HNN.out.1]; exact hX3)
  have hseq : ArSeq 8 B2 (sortA es) w3 := all_seq 8 (by decide) B2 b mb (g : Int) es w3 c3 hA3 (fun e he => (HW.out e he).2)
  have hI3 : ∀ hi, WrI w N NR hi hd w3 := fun hi => by
    have hl := wrP_lie _ _ _ _ _ HV2.out
    exact ⟨by omega, Nat.le_of_eq hNR.symm, hX3, g2, wrP_stay _ _ _ _ _ _ HV2.out hb3.size (hb3.block _ hl.2.1) (fun k hk => hb3.block k (hl.2.2 k hk).2.1), fun k hk => .inl (by have := (hl.2.2 k hk).2.1; omega)⟩
  have HHN := Lib.hid (show hd.length ≤ 18 from by rw [← hhd, List.length_append]; have := enc7_9 HG.out; have := enc7_9 (n := n) (by omega); omega)
  have HNB := Lib.hid (And.intro hNB (And.intro hs3 (And.intro hB2 hNR)))
  have HWS := Lib.hid (fun e (he : e ∈ sortA es) => HW.out e (sortA_mem.1 he))
  have HLS := Lib.hid (show (sortA es).length = n by rw [sortA_len, HNN.out.2.2.1])
  have HDG := Lib.hid (fun (B : World) (hB : Below N w B) e (he : e ∈ sortA es) => (HA.out.dg e (sortA_mem.1 he)).of_below (show Below w.heap.size w B by rw [HNN.out.1]; exact hB))
  have HGO := Lib.hid (fun e (he : e ∈ sortA es) => And.intro (HA.out.good e (sortA_mem.1 he)) (HA.out.inn e (sortA_mem.1 he)))
  rw [hw3, hB2]
  clear hb3 hs3 hX3 hA3 HX1 HX2 HV2 HG1 c3 hw3 HN2 hhd hNB
  refine range_arch (m := 9) (by decide) (bb := B2) rfl rfl hseq (fun A => ∀ hi, WrI w N NR hi hd A)
    (fun lo hi s A => (lo ≤ hi ∧ NR + 2 ≤ lo ∧ hi ≤ A.heap.size) ∧ WrI w N NR hi (hd ++ itsA ((sortA es).take s)) A)
    (fun B B' h k hi => (h hi).of_below k)
    (fun lo hi s B B' h hh k => ⟨⟨h.1.1, h.1.2.1, Nat.le_trans hh k.size⟩, h.2.of_below k⟩)
    (fun lo hi s B h => HDG.out B h.2.2.2.1)
    (fun A B hA hAB h1 h2 => ⟨⟨hAB.size, by rw [← hNR]; exact hA, Nat.le_refl _⟩, by have := h2 B.heap.size; simpa [itsA] using this⟩)
    (fun lo hi s A o h1 h2 h => ⟨⟨h.1.1, h.1.2.1, Nat.le_trans h.1.2.2 (below_putP (N := 0) o (Nat.zero_le _) h2).size⟩, h.2.put (by rw [hNR]; omega) (by rw [hNR]; have := h.1; omega) h2⟩)
    hI3
    (fun v A a' A' => a' = { tmps := #[.pointer (some ⟨b, 0, none⟩), undef, .slice none 0 0, .pointer (some ⟨N, 0, none⟩), .pointer (some ⟨A.heap.size, 0, none⟩), .pointer (some ⟨b, 0, none⟩), .pointer (some ⟨b, 0, none⟩), .pointer (some ⟨b, 0, none⟩), .int .i64 (g : Int), .bool true, .pointer (some ⟨b, 0, none⟩), .pointer (some ⟨b, 0, none⟩), .pointer (some ⟨b, 1, none⟩), .map (some mb), .int .i64 (n : Int), .bool true, .pointer (some ⟨b, 0, none⟩), .func (.func 120) #[] #[.pointer (some ⟨B2, 0, none⟩)], v, undef, undef, undef, undef, undef, undef, undef, undef], defers := [] } ∧ ∃ r, v = rcV r ∧ A' = A.alloc (.cells (tab 54 (rcF r)) 44))
    ?asg0 ?assign ?body ?done
  case asg0 =>
    rintro v A a' A' ⟨-, r, -, rfl⟩
    exact below_newR _ _
  case assign =>
    intro Lp r W K hK
    have hK := Lib.hid hK
    have st := st_lit11 W r
    gi_wp2
    exact ⟨r, rfl, rfl⟩
  case body =>
    rintro Lp lo hi s q c A0 A1 o a' hs hlo hhi hNA ⟨⟨hlh, hlo2, hhi2⟩, hI⟩ hD ⟨rfl, r0, hr0, hA1⟩
    obtain ⟨et, het⟩ : ∃ e, (sortA es).getD s ent0 = e := ⟨_, rfl⟩
    have hmem : et ∈ sortA es := by
      rw [← het, List.getD_eq_getElem?_getD, List.getElem?_eq_getElem hs]
      exact List.getElem_mem _
    have hIT := itsA_take (sortA es) s hs
    rw [het] at hD hr0 hIT ⊢
    have hA1' : A1 = A0.alloc (.cells (tab 54 (rcF (et.1.mov q c))) 44) := by
      rw [hA1]
      have h1 := congrArg (fun v => match v with | .agg a => a | _ => #[]) (show Value.agg (tab 54 (rcF (et.1.mov q c))) = Value.agg (tab 54 (rcF r0)) from by unfold rcV at hr0; exact hr0)
      rw [show tab 54 (rcF (et.1.mov q c)) = tab 54 (rcF r0) from h1]
    obtain ⟨C, hC⟩ : ∃ x, A1.putObj (w3.heap.size + 1) o = x := ⟨_, rfl⟩
    have hRow : Row C A0.heap.size 44 54 (rcF (et.1.mov q c)) := by
      rw [← hC]
      refine Row.of_block ?_ (World.putObj_heap_other (by omega))
      rw [hA1']
      exact Row.new _ _ _ _
    rw [hC] at hI hD hhi2 ⊢
    have ld := loadRT rtP hRow
    have hfr := HGO.out et hmem
    have hTC : Tb C := HT.out.on (show Below w.heap.size w C by rw [HNN.out.1]; exact hI.2.2.1)
    have HB := Lib.hid (bytes10_ok (et.1.mov q c) et.2 C hD hfr.1 hfr.2.1 hfr.2.2 hTC)
    have HRL := Lib.hid (recB_len (HWS.out et hmem).1)
    have HI := Lib.hid hI
    have HITT := Lib.hid hIT
    have HRG := Lib.hid (And.intro hlh (And.intro hlo2 hhi2))
    have HSL := Lib.hid (show s < n from by rw [← HLS.out]; exact hs)
    obtain ⟨V, hV⟩ : ∃ x, rcV (et.1.mov q c) = x := ⟨_, rfl⟩
    rw [hV] at ld HB ⊢
    clear hD hr0 hA1 hA1' hC hRow hfr hTC hI hIT hV hs
    gi_wp2_with (first
      | (refine ⟨trivial, ?_⟩; gi_at_call 79; refine (CallsIn.inRound Lp (callsIn_wide.2 HB.out)).mono ?_
         rintro e C1 ⟨v, rfl, hO, hB⟩
         obtain ⟨pv, cv, rfl, hsv, hpv, -⟩ := hO.shape
         obtain ⟨bs, hbs⟩ : ∃ x, recB et = x := ⟨_, rfl⟩
         have hbs' : encRc ((et.1.mov q c).text et.2) = bs := hbs
         rw [hbs'] at hsv hO ⊢
         obtain ⟨i1, i2, i3, gw, i4, i5⟩ := HI.out
         have hlie := wrP_lie _ _ _ _ _ i4
         have i4 := wrP_stay _ _ C1 _ _ _ i4 hB.size (hB.block _ hlie.2.1) (fun k hk => hB.block k (hlie.2.2 k hk).2.1)
         have hs1 : C.heap.size ≤ C1.heap.size := hB.size
         have HLB := Lib.hid (show bs.length ≤ 9000 from by rw [← hbs]; exact HRL.out.1)
         have hL1 : (hd ++ itsA ((sortA es).take s)).length < 1000000000 := by
           rw [List.length_append]
           have h1 := itsA_len (L := (sortA es).take s) (fun e he => (HWS.out e (List.mem_of_mem_take he)).1)
           have h2 := HHN.out
           have h3 := HSL.out
           have h4 : ((sortA es).take s).length ≤ s := by rw [List.length_take]; omega
           omega
         have HWB := Lib.hid (wrP_bytesQ N C1 ⟨N, 0, none⟩ gw (hd ++ itsA ((sortA es).take s)) pv bs.length cv bs i4 hL1 rfl hsv hpv (by have := HLB.out; omega) (fun cc oo e => by
           have hcc : C.heap.size ≤ cc := (hO.lt cc (by rw [e]; rfl)).1
           exact ⟨by show cc ≠ N; have := hlie.2.1; dsimp only at this; omega, fun e2 => by have := (hlie.2.2 cc e2).2.1; omega⟩))
         have HST := Lib.hid (fun (C2 : World) (hP : WrPost WrP N C1 ⟨N, 0, none⟩ gw ((hd ++ itsA ((sortA es).take s)) ++ (enc7 bs.length ++ bs)) C2) => WrI.step i1 (Nat.le_trans i2 hs1) (Nat.le_trans HRG.out.2.2 hs1) (i3.trans (hB.mono (by have := hlie.2.1; dsimp only at this; omega))) i4 i5 hP)
         have HKC := Lib.hid (And.intro (others_belowP hB) (show Fr12 C C1 lo hi from ⟨Nat.le_trans HRG.out.2.2 hs1, fun k h1 h2 => hB.block k (by have := HRG.out; omega)⟩))
         have HEQ := Lib.hid (show (hd ++ itsA ((sortA es).take s)) ++ (enc7 bs.length ++ bs) = hd ++ itsA ((sortA es).take (s + 1)) from by rw [HITT.out, List.append_assoc]; unfold itA; rw [hbs])
         clear hO hB hsv hpv hbs hbs' i1 i2 i3 i4 i5 hlie hs1 hL1)
      | (refine ⟨trivial, ?_⟩; gi_at_call 78; refine (CallsIn.inRound Lp (callsIn_wide.2 HWB.out)).mono ?_
         rintro e C2 ⟨rfl, hP⟩
         have HP := Lib.hid (HST.out C2 hP)
         clear hP))
    obtain ⟨p1, p2, p3⟩ := HP.out
    rw [HEQ.out] at p1
    have hsz := (p3 C lo (by have := HRG.out; omega) HKC.out.2)
    exact ⟨HKC.out.1.trans p2, hsz, ⟨HRG.out.1, HRG.out.2.1, hsz.1⟩, p1⟩
  case done =>
    rintro D lo hi A hD ⟨⟨hlh, hlo, hhi⟩, hI⟩ hK
    obtain ⟨bd, hbd⟩ : ∃ x, bodyA g (sortA es) = x := ⟨_, rfl⟩
    obtain ⟨enc, henc⟩ : ∃ x, encAr g (sortA es) = x := ⟨_, rfl⟩
    have hEN : enc = bd ++ digL bd := by rw [← henc, ← hbd]; rfl
    have hfin : hd ++ itsA ((sortA es).take (sortA es).length) = bd := by rw [List.take_length, ← hbd, ← HHD.out]; unfold bodyA; rw [HLS.out]
    have hbl : bd.length ≤ 1200000 := by rw [← hbd]; exact bodyA_len HG.out (by rw [HLS.out]; exact hn128) (fun e he => (HWS.out e he).1)
    rw [hfin] at hI
    have HENC := Lib.hid henc
    obtain ⟨i1, i2, i3, gw, i4, -⟩ := hI
    have hlie := wrP_lie _ _ _ _ _ i4
    have hDA := (Array.getElem?_eq_some_iff.1 hK).1
    have HDN := Lib.hid (wrP_done N A ⟨N, 0, none⟩ gw bd i4 (by omega))
    have HK := Lib.hid hK
    have HI := Lib.hid (And.intro i3 (And.intro i4 hlie))
    have HEN := Lib.hid hEN
    have HBL := Lib.hid hbl
    rw [hNR] at hD
    have HDD := Lib.hid (And.intro hD (And.intro i1 (And.intro hDA hlie.2.1)))
    clear hK i1 i2 i3 i4 hlie hfin hEN hbd henc hbl hD hDA hhi hlh hlo
    gi_wp2_with (first
      | (refine ⟨trivial, ?_⟩; gi_at_call 81; refine (callsIn_wide.2 HDN.out).mono ?_
         rintro e w5 ⟨v5, rfl, hO5, hB5⟩
         obtain ⟨p5, c5, rfl, hs5, hp5, -⟩ := hO5.shape
         obtain ⟨W6, hW6⟩ : ∃ W, w5.alloc (.cells #[.slice p5 bd.length c5] 53) = W := ⟨_, rfl⟩
         have hB6 : Below w5.heap.size w5 W6 := by rw [← hW6]; exact below_newR _ _
         have hc6 : W6.cell? ⟨w5.heap.size, 0, none⟩ = some (.slice p5 bd.length c5) := by rw [← hW6]; exact World.cell?_alloc_new _ _ _ _
         have hB46 := hB5.trans (hB6.mono hB5.size)
         have HB46 := Lib.hid hB46
         have HSM := Lib.hid (sum1_any bd w5.heap.size 0 p5 bd.length c5 W6 rfl hc6 (hs5.of_below hB6) (HT.out.on (show Below w.heap.size w W6 by rw [HNN.out.1]; exact HI.out.1.trans (hB46.mono (by have := HDD.out; omega)))) (by have := HBL.out; omega))
         clear hO5 hs5 hp5 hB6 hc6 hB5 HDN hB46)
      | (refine ⟨trivial, ?_⟩; gi_at_call 69; refine (callsIn_wide.2 HSM.out).mono ?_
         rintro e w7 ⟨rfl, hB7⟩
         have hB47 := HB46.out.trans (hB7.mono HB46.out.size)
         have hlie := HI.out.2.2
         have hW7 := wrP_stay _ _ w7 _ _ _ HI.out.2.1 hB47.size (hB47.block _ hlie.2.1) (fun k hk => hB47.block k (hlie.2.2 k hk).2.1)
         have HX7 := Lib.hid (show Below N w w7 from HI.out.1.trans (hB47.mono (by have := HDD.out; omega)))
         have HK7 := Lib.hid (show w7.heap[D]? = some (.deferred (some [])) from (hB47.block D HDD.out.2.2.1).trans HK.out)
         have HDG := Lib.hid (wrP_digest N w7 ⟨N, 0, none⟩ gw bd (digL bd) hW7 (by have := HBL.out; omega) (digL_len _))
         rw [← HEN.out] at HDG
         have HW7 := Lib.hid hW7
         clear hB7 hB47 hW7 hlie HSM HB46)
      | (refine ⟨trivial, ?_⟩; gi_at_call 80; refine (callsIn_wide.2 HDG.out).mono ?_
         rintro e w8 ⟨rfl, g8, hW8, hg8, hK8⟩
         have hlie := wrP_lie _ _ _ _ _ HW7.out
         have hl8 := wrP_lie _ _ _ _ _ hW8
         have HX8 := Lib.hid (show Below N w w8 from HX7.out.trans (hK8.below (Nat.le_refl _) (fun k hk => (hlie.2.2 k hk).1) (by have := hlie.2.1; dsimp only at this; omega)))
         have HK8 := Lib.hid ((hK8.others HW7.out).same D _ HK7.out rfl)
         have HLE := Lib.hid (show enc.length < 1000000000 from by rw [HEN.out, List.length_append, digL_len]; have := HBL.out; omega)
         have HDN := Lib.hid (wrP_done N w8 ⟨N, 0, none⟩ g8 enc hW8 HLE.out)
         have HL8 := Lib.hid hl8
         clear hW8 hg8 hK8 hlie hl8 HDG HW7)
      | (refine ⟨trivial, ?_⟩; gi_at_call 81; refine (callsIn_wide.2 HDN.out).mono ?_
         rintro e w9 ⟨v9, rfl, hO9, hB9⟩
         obtain ⟨p9, c9, rfl, -, -, -⟩ := hO9.shape
         have HO9 := Lib.hid hO9
         have HB9 := Lib.hid hB9
         have HK9 := Lib.hid (show w9.heap[D]? = some (.deferred (some [])) from (hB9.block D (Array.getElem?_eq_some_iff.1 HK8.out).1).trans HK8.out)
         clear hO9 hB9 HDN))
    refine ⟨by simp, .inl ⟨_, _, rfl, run_takeDeferred HK9.out, ?_⟩⟩
    have hDl := (Array.getElem?_eq_some_iff.1 HK9.out).1
    have hd8 := HX8.out.size
    have hd1 := HDD.out
    have hd2 := HL8.out.2.1
    have hd3 := (Array.getElem?_eq_some_iff.1 HK8.out).1
    refine ⟨.slice p9 enc.length c9, ?_, .slice p9 enc.length c9, rfl, ?_, ?_⟩
    · simp [results, Tryz.f29, go_sem]
    · rw [HNN.out.1, HENC.out]
      exact (HO9.out.lower (show N ≤ w8.heap.size by omega)).keep (fun k hk => World.putObj_heap_other (by have := (HO9.out.lt k hk).1; omega))
    · rw [HNN.out.1]
      exact (HX8.out.trans (HB9.out.mono (by omega))).trans (below_putP _ (by omega) hDl)
end Go.Proofs.YtnmopjefjpifoaaGreatDoor
/- What is taken of bytes as an archive (plain); what archive.Parse's closure carries. -/
set_option maxRecDepth 100000
namespace Go.Proofs.YtnmopjefjpifoaaGreatDoor
open Go Go.RowKit

attribute [-go_sem] Sha.exec_store
/-- So many slices of bytes; an archive's parts. -/
def takeBs : Nat → By → Except Nat (List By × By)
  | 0, l => .ok ([], l)
  | k + 1, l => stp (nextI l 1 4096) l fun x l1 => (takeBs k l1).map fun y => (x.b :: y.1, y.2)
def takeAr (l : By) : Except Nat ((Nat × List By × By) × By) :=
  stp (takeI l maxT) l fun g l1 => stp (takeI l1 128) l1 fun k l2 => match takeBs k l2 with
    | .error c => .error c
    | .ok (bs, l3) => stp (nextI l3 4 0) l3 fun d l4 => .ok ((g, bs, d.b), l4)
/-- Slices of bytes, with their headers. -/
def HdsC (w : World) (N : Nat) (v : Value) (bs : List By) (cs : List Value) : Prop :=
  w.ownsRow N 53 1 v bs.length cs ∧ ∀ i, i < bs.length → ∃ p cap, cs[i]? = some (.slice p (bs.getD i []).length cap) ∧ Sl w p (bs.getD i []) ∧ (p = none → cap = 0) ∧ (bs.getD i []).length ≤ cap ∧ ∀ c o, p = some ⟨c, o, none⟩ → N ≤ c ∧ c < w.heap.size ∧ v.ownBlock ≠ some c
def HdL (w : World) (N : Nat) (v : Value) (bs : List By) : Prop := ∃ cs, HdsC w N v bs cs
theorem HdsC.keep {w w' : World} {N : Nat} {v : Value} {bs : List By} {cs : List Value} (h : HdsC w N v bs cs) (hs : w.heap.size ≤ w'.heap.size) (hb : ∀ c, N ≤ c → c < w.heap.size → w'.heap[c]? = w.heap[c]?) : HdsC w' N v bs cs := by
  obtain ⟨h1, h2⟩ := h
  refine ⟨own_keep h1 (fun g hg => hb g (h1.lt g hg).1 (h1.lt g hg).2), fun i hi => ?_⟩
  obtain ⟨p, cap, e1, e2, e3, e5, e4⟩ := h2 i hi
  exact ⟨p, cap, e1, e2.keepP (fun c o e hlt => hb c (e4 c o e).1 hlt), e3, e5, fun c o e => ⟨(e4 c o e).1, Nat.lt_of_lt_of_le (e4 c o e).2.1 hs, (e4 c o e).2.2⟩⟩
theorem HdL.keep {w w' : World} {N : Nat} {v : Value} {bs : List By} (h : HdL w N v bs) (hs : w.heap.size ≤ w'.heap.size) (hb : ∀ c, N ≤ c → c < w.heap.size → w'.heap[c]? = w.heap[c]?) : HdL w' N v bs := by
  obtain ⟨cs, h⟩ := h
  exact ⟨cs, h.keep hs hb⟩
theorem HdsC.push {w w' : World} {N : Nat} {v v' : Value} {bs : List By} {cs : List Value} {p : Option Addr} {cap : Nat} {r : By} (h : HdsC w N v bs cs)
    (hs : Sl w p r) (hp : p = none → cap = 0) (hl : r.length ≤ cap) (hb : ∀ c o, p = some ⟨c, o, none⟩ → N ≤ c ∧ c < w.heap.size ∧ v.ownBlock ≠ some c)
    (hO : w'.ownsRow N 53 1 v' (bs.length + 1) (cs ++ [.slice p r.length cap])) (hg : w.grownBy w' v.ownBlock) (hor : v'.ownBlock = v.ownBlock ∨ v'.ownBlock = some w.heap.size) : HdL w' N v' (bs ++ [r]) := by
  obtain ⟨h1, h2⟩ := h
  have hcl : cs.length = bs.length := by have := h1.1; omega
  have key : ∀ c, c < w.heap.size → v.ownBlock ≠ some c → w'.heap[c]? = w.heap[c]? ∧ v'.ownBlock ≠ some c := fun c h3 h4 =>
    ⟨hg.block c h3 (fun e => h4 e.symm), fun e => by
      rcases hor with e2 | e2
      · exact h4 (by rw [← e2]; exact e)
      · rw [e2] at e; injection e with e; omega⟩
  refine ⟨cs ++ [.slice p r.length cap], by rw [List.length_append]; exact hO, fun i hi => ?_⟩
  by_cases h : i < bs.length
  · obtain ⟨p', cap', e1, e2, e3, e5, e4⟩ := h2 i h
    have hgd : (bs ++ [r]).getD i [] = bs.getD i [] := by simp [List.getD_eq_getElem?_getD, List.getElem?_append_left h]
    rw [hgd]
    exact ⟨p', cap', by rw [List.getElem?_append_left (by omega)]; exact e1, e2.keepP (fun c o e hlt => (key c hlt (e4 c o e).2.2).1), e3, e5, fun c o e => ⟨(e4 c o e).1, Nat.lt_of_lt_of_le (e4 c o e).2.1 hg.size, (key c (e4 c o e).2.1 (e4 c o e).2.2).2⟩⟩
  · have hi' : i = bs.length := by rw [List.length_append] at hi; simp at hi; omega
    subst hi'
    have hgd : (bs ++ [r]).getD bs.length [] = r := by simp [List.getD_eq_getElem?_getD]
    rw [hgd]
    exact ⟨p, cap, by rw [← hcl]; simp, hs.keepP (fun c o e hlt => (key c hlt (hb c o e).2.2).1), hp, hl, fun c o e => ⟨(hb c o e).1, Nat.lt_of_lt_of_le (hb c o e).2.1 hg.size, (key c (hb c o e).2.1 (hb c o e).2.2).2⟩⟩
/-- Such a slice's shape. -/
theorem HdL.shape {w : World} {N : Nat} {v : Value} {bs : List By} (h : HdL w N v bs) : ∃ p cap, v = .slice p bs.length cap ∧ (p = none → cap = 0) ∧ bs.length ≤ cap ∧ (∀ c o, p = some ⟨c, o, none⟩ → N ≤ c ∧ c < w.heap.size) ∧
    ∀ i, i < bs.length → ∃ c o q d, p = some ⟨c, o, none⟩ ∧ w.cell? ⟨c, o + i, none⟩ = some (.slice q (bs.getD i []).length d) ∧ Sl w q (bs.getD i []) ∧ (q = none → d = 0) ∧ (bs.getD i []).length ≤ d := by
  obtain ⟨cs, h1, h2⟩ := h
  obtain ⟨p, cap, e, h3, h4, h5, h6⟩ := own_shape h1
  refine ⟨p, cap, e, h4, h5, h6, fun i hi => ?_⟩
  obtain ⟨q, d, e1, e2, e3, e5, -⟩ := h2 i hi
  obtain ⟨c, o, ep, hlt, hc⟩ := h3.cell e1
  exact ⟨c, o, q, d, ep, hc, e2, e3, e5⟩
/-- The boxes of Parse while its closure reads. -/
structure PSt (N : Nat) (w : World) (a : Addr) (b4 b5 b6 : Nat) (g : Int) (v : Value) (g6 : Nat → Value) (x : World) : Prop where
  c4 : x.cell? ⟨b4, 0, none⟩ = some (.int .i64 g)
  f4 : x.frozen? ⟨b4, 0, none⟩ = false
  c5 : x.cell? ⟨b5, 0, none⟩ = some v
  f5 : x.frozen? ⟨b5, 0, none⟩ = false
  r6 : Row x b6 41 32 g6
  lo : Loc N a.block w x
  be : ∀ M, M ≤ b4 → M ≤ b5 → M ≤ b6 → M ≤ N → Below M w x
/-- How the boxes lie. -/
structure PLy (N : Nat) (w : World) (a : Addr) (b4 b5 b6 : Nat) : Prop where
  n4 : b4 < N
  n5 : b5 < N
  n6 : b6 < N
  na : N ≤ a.block
  nw : a.block < w.heap.size
  e45 : b4 ≠ b5
  e46 : b4 ≠ b6
  e56 : b5 ≠ b6
section
variable {N : Nat} {w x y : World} {a : Addr} {b4 b5 b6 : Nat} {g : Int} {v : Value} {g6 : Nat → Value} {p : Option Addr} {l : By}
theorem PSt.kp (L : PLy N w a b4 b5 b6) (h : PSt N w a b4 b5 b6 g v g6 x) (k : Kp a.block x y) : PSt N w a b4 b5 b6 g v g6 y := by
  have h1 := L.n4; have h2 := L.n5; have h3 := L.n6; have h4 := L.na; have h5 := L.nw
  have hs := h.lo.size
  refine ⟨by rw [k.cell (by exact World.block_lt_of_cell? x _ h.c4) (by show b4 ≠ _; omega)]; exact h.c4, by rw [World.frozen?_of_block (w := x) (k.block b4 (by omega) (by omega))]; exact h.f4,
    by rw [k.cell (by exact World.block_lt_of_cell? x _ h.c5) (by show b5 ≠ _; omega)]; exact h.c5, by rw [World.frozen?_of_block (w := x) (k.block b5 (by omega) (by omega))]; exact h.f5,
    h.r6.of_kp k (by omega), h.lo.trans (Loc.ofKp k), fun M m1 m2 m3 m4 => (h.be M m1 m2 m3 m4).trans (k.below (by omega) (by omega))⟩
theorem PSt.below (L : PLy N w a b4 b5 b6) (h : PSt N w a b4 b5 b6 g v g6 x) {M : Nat} (hM : w.heap.size ≤ M) (k : Below M x y) : PSt N w a b4 b5 b6 g v g6 y := by
  have h1 := L.n4; have h2 := L.n5; have h3 := L.n6; have h4 := L.na; have h5 := L.nw
  refine ⟨by rw [k.cell (by show b4 < M; omega)]; exact h.c4, by rw [World.frozen?_of_block (w := x) (k.block b4 (by omega))]; exact h.f4,
    by rw [k.cell (by show b5 < M; omega)]; exact h.c5, by rw [World.frozen?_of_block (w := x) (k.block b5 (by omega))]; exact h.f5,
    h.r6.of_block (k.block b6 (by omega)), ⟨Nat.le_trans h.lo.size k.size, fun i i1 i2 i3 => (k.block i (by omega)).trans (h.lo.block i i1 i2 i3)⟩, fun M' m1 m2 m3 m4 => (h.be M' m1 m2 m3 m4).trans (k.mono (by omega))⟩
theorem PSt.set4 (L : PLy N w a b4 b5 b6) (h : PSt N w a b4 b5 b6 g v g6 x) (g' : Int) : PSt N w a b4 b5 b6 g' v g6 (x.setCell ⟨b4, 0, none⟩ (.int .i64 g')) := by
  have h1 := L.n4; have h2 := L.n5; have h3 := L.n6; have h4 := L.na; have h5 := L.nw; have e1 := L.e45; have e2 := L.e46
  have hb : ∀ k, k ≠ b4 → (x.setCell ⟨b4, 0, none⟩ (.int .i64 g')).heap[k]? = x.heap[k]? := fun k hk => Below.heap_setCell _ _ _ _ hk
  exact ⟨World.cell?_setCell_same _ _ _ h.c4, by rw [World.frozen?_setCell]; exact h.f4, by rw [World.cell?_of_block (w := x) (hb b5 (by omega))]; exact h.c5, by rw [World.frozen?_setCell]; exact h.f5, h.r6.of_block (hb b6 (by omega)),
    h.lo.trans (Loc.low x L.n4 0 _), fun M m1 m2 m3 m4 => (h.be M m1 m2 m3 m4).trans ((Below.refl M x).setCell (by exact m1) _)⟩
theorem PSt.set5 (L : PLy N w a b4 b5 b6) (h : PSt N w a b4 b5 b6 g v g6 x) (v' : Value) : PSt N w a b4 b5 b6 g v' g6 (x.setCell ⟨b5, 0, none⟩ v') := by
  have h1 := L.n4; have h2 := L.n5; have h3 := L.n6; have h4 := L.na; have h5 := L.nw; have e1 := L.e45; have e2 := L.e56
  have hb : ∀ k, k ≠ b5 → (x.setCell ⟨b5, 0, none⟩ v').heap[k]? = x.heap[k]? := fun k hk => Below.heap_setCell _ _ _ _ hk
  exact ⟨by rw [World.cell?_of_block (w := x) (hb b4 (by omega))]; exact h.c4, by rw [World.frozen?_setCell]; exact h.f4, World.cell?_setCell_same _ _ _ h.c5, by rw [World.frozen?_setCell]; exact h.f5, h.r6.of_block (hb b6 (by omega)),
    h.lo.trans (Loc.low x L.n5 0 _), fun M m1 m2 m3 m4 => (h.be M m1 m2 m3 m4).trans ((Below.refl M x).setCell (by exact m2) _)⟩
theorem PSt.put6 (L : PLy N w a b4 b5 b6) (h : PSt N w a b4 b5 b6 g v g6 x) {h6 : Nat → Value} (hr : Row y b6 41 32 h6) (k : Kp b6 x y) : PSt N w a b4 b5 b6 g v h6 y := by
  have h1 := L.n4; have h2 := L.n5; have h3 := L.n6; have h4 := L.na; have h5 := L.nw; have e1 := L.e46; have e2 := L.e56
  have hs := h.lo.size
  refine ⟨by rw [k.cell (by exact World.block_lt_of_cell? x _ h.c4) (by show b4 ≠ _; omega)]; exact h.c4, by rw [World.frozen?_of_block (w := x) (k.block b4 (by omega) (by omega))]; exact h.f4,
    by rw [k.cell (by exact World.block_lt_of_cell? x _ h.c5) (by show b5 ≠ _; omega)]; exact h.c5, by rw [World.frozen?_of_block (w := x) (k.block b5 (by omega) (by omega))]; exact h.f5,
    hr, ⟨Nat.le_trans hs k.size, fun i i1 i2 i3 => (k.block i (by omega) (by omega)).trans (h.lo.block i i1 i2 i3)⟩, fun M m1 m2 m3 m4 => (h.be M m1 m2 m3 m4).trans (k.below m3 (by omega))⟩
/-- The reader behind a store into one of the boxes. -/
theorem rdP_box {b : Nat} (h : RdP p N x a l) (hb : b < N) (hp : 0 < l.length → ∀ c o, p = some ⟨c, o, none⟩ → c ≠ b) (k : Kp b x y) : RdP p N y a l := by
  have hl := rdP_lie _ _ _ _ _ h
  exact rdP_stay4 _ _ _ _ _ _ h (k.block _ hl.2 (by omega)) (fun h0 c o e hc => k.block c (by omega) (hp h0 c o e))
end
end Go.Proofs.YtnmopjefjpifoaaGreatDoor
/- archive.Parse's closure. -/
set_option maxRecDepth 100000
namespace Go.Proofs.YtnmopjefjpifoaaGreatDoor
open Go Go.RowKit

attribute [-go_sem] Sha.exec_store
theorem lsc_one11 (x : World) (v : Value) (T : TypeId) : LsC (x.alloc (.cells #[v] T)) (some ⟨x.heap.size, 0, none⟩) [v] := fun j hj => by
  obtain rfl : j = 0 := by simp at hj; omega
  exact ⟨x.heap.size, 0, rfl, by rw [Nat.add_zero]; exact World.cell?_alloc_new _ _ _ _⟩
/-- What Parse's closure tells. -/
def PasIn (p : Option Addr) (N : Nat) (w : World) (a : Addr) (b4 b5 b6 : Nat) (T : Except Nat ((Nat × List By × By) × By)) (e : Ending) (w' : World) : Prop :=
  Loc N a.block w w' ∧ (∀ M, M ≤ b4 → M ≤ b5 → M ≤ b6 → M ≤ N → Below M w w') ∧ match T with
    | .error c => c ≠ 0 ∧ Thrown (ThrP a) c e w'
    | .ok ((g, bs, d), rest) => e = .returned (.tuple #[]) ∧ RdP p N w' a rest ∧ w'.cell? ⟨b4, 0, none⟩ = some (.int .i64 (g : Int)) ∧ (∃ v, w'.cell? ⟨b5, 0, none⟩ = some v ∧ HdL w' w.heap.size v bs) ∧ Row w' b6 41 32 (dgF d) ∧ d.length = 32
attribute [local go_sem ↓] exec_load32 exec_store32F exec_bs
attribute [local go_sem] bsSl
set_option maxRecDepth 100000 in
set_option maxHeartbeats 16000000 in
theorem pas_in (p : Option Addr) (N : Nat) (w : World) (a : Addr) (l : By) (b4 b5 b6 : Nat) (g6 : Nat → Value) (L : PLy N w a b4 b5 b6) (hR : RdP p N w a l) (hP : PSt N w a b4 b5 b6 0 (.slice none 0 0) g6 w) (hpp : 0 < l.length → ∀ c o, p = some ⟨c, o, none⟩ → c ≠ b4 ∧ c ≠ b5 ∧ c ≠ b6) :
    Calls Tryz.prog 64 (#[.pointer (some a)] ++ #[.pointer (some ⟨b4, 0, none⟩), .pointer (some ⟨b5, 0, none⟩), .pointer (some ⟨b6, 0, none⟩)]) w (PasIn p N w a b4 b5 b6 (takeAr l)) := by
  obtain ⟨T, hT⟩ : ∃ T, takeAr l = T := ⟨_, rfl⟩
  rw [hT]
  unfold takeAr at hT
  have HR0 := Lib.hid hR
  have HP0 := Lib.hid hP
  have HPP := Lib.hid hpp
  obtain ⟨H, hH⟩ : ∃ h, w.heap.size = h := ⟨_, rfl⟩
  have HH := Lib.hid hH
  clear hR hP hpp hH
  show Calls Tryz.prog _ #[.pointer (some a), .pointer (some ⟨b4, 0, none⟩), .pointer (some ⟨b5, 0, none⟩), .pointer (some ⟨b6, 0, none⟩)] w _
  go_enter Tryz.func64, Tryz.ntmps64
  obtain ⟨y, hy⟩ : ∃ y, takeI l maxT = y := ⟨_, rfl⟩
  obtain ⟨g, kx, c⟩ := y
  have HC := Lib.hid (show Calls Tryz.prog 65 #[.pointer (some a), .int .i64 9223372036854775807] w (RdPost RdP ThrP p N w a l (takeI l maxT).2.2 (takeI l maxT).2.1 fun v _ => v = .int .i64 ((takeI l maxT).1 : Int)) from rdP_number p N w a l 9223372036854775807 HR0.out)
  rw [hy] at HC hT
  try dsimp only at HC
  by_cases hc : c = 0
  · subst hc
    rw [stp_ok rfl] at hT
    try dsimp only at hT
    have HE_l1 := Lib.hid hy
    obtain ⟨l1, hl⟩ : ∃ l', l.drop kx = l' := ⟨_, rfl⟩
    have HLE_l1 := Lib.hid (show l1.length ≤ l.length from by rw [← hl, List.length_drop]; omega)
    rw [hl] at hT
    have HLD := Lib.hid hl
    have HT := Lib.hid hT
    clear hT hl hy
    go_wp2_with fail
    refine HC.out.mono ?_
    rintro e w1 ⟨hK, ⟨-, ⟨v, rfl, hval⟩, hR⟩ | ⟨hcc, -⟩⟩
    · rw [HLD.out] at hR
      have HP1 := Lib.hid (PSt.kp L HP0.out hK)
      have HKD_l1 := Lib.hid hK
      have HR_l1 := Lib.hid hR
      have hT := HT.out
      clear HC HT hK hR HLD
      subst hval
      obtain ⟨w2, hw2⟩ : ∃ x, w1.setCell ⟨b4, 0, none⟩ (.int .i64 (g : Int)) = x := ⟨_, rfl⟩
      have cc4 := HP1.out.c4
      have cf4 := HP1.out.f4
      have HP2 := Lib.hid (show PSt N w a b4 b5 b6 (g : Int) (.slice none 0 0) g6 w2 from by rw [← hw2]; exact PSt.set4 L HP1.out g)
      have HR2 := Lib.hid (show RdP p N w2 a l1 from rdP_box HR_l1.out L.n4 (fun h0 c o e => (HPP.out (by have := HLE_l1.out; omega) c o e).1) (by rw [← hw2]; exact (Kp.refl _ _).setCell 0 _))
      obtain ⟨y, hy⟩ : ∃ y, takeI l1 128 = y := ⟨_, rfl⟩
      obtain ⟨m, kx, c⟩ := y
      have HC := Lib.hid (rdP_count p N w2 a l1 128 HR2.out)
      rw [hy] at HC hT
      try dsimp only at HC
      by_cases hc : c = 0
      · subst hc
        rw [stp_ok rfl] at hT
        try dsimp only at hT
        have HE_l2 := Lib.hid hy
        obtain ⟨l2, hl⟩ : ∃ l', l1.drop kx = l' := ⟨_, rfl⟩
        have HLE_l2 := Lib.hid (show l2.length ≤ l1.length from by rw [← hl, List.length_drop]; omega)
        rw [hl] at hT
        have HLD := Lib.hid hl
        have HT := Lib.hid hT
        clear hT hl hy
        go_wp2_with fail
        clear hw2 cc4 cf4
        refine HC.out.mono ?_
        rintro e w3 ⟨hK, ⟨-, ⟨v, rfl, hval⟩, hR⟩ | ⟨hcc, -⟩⟩
        · rw [HLD.out] at hR
          have HP3 := Lib.hid (PSt.kp L HP2.out hK)
          have HKD_l2 := Lib.hid hK
          have HR_l2 := Lib.hid hR
          have hT := HT.out
          clear HC HT hK hR HLD
          subst hval
          have hm := takeI_le HE_l2.out
          have HM := Lib.hid hm
          have HT := Lib.hid hT
          clear hT
          have c5 := HP3.out.c5
          go_wp2
          go_loopw [9] (fun i wr => ∃ (k : Nat) (dn : List By) (li : By) (q : Option Addr) (cap : Nat) (cs : List Value), k ≤ m ∧ i = .int .i64 (k : Int) ∧ dn.length = k ∧ li.length ≤ l.length ∧ takeBs m l2 = (takeBs (m - k) li).map (fun x => (dn ++ x.1, x.2)) ∧ RdP p N wr a li ∧ HdsC wr H (.slice q k cap) dn cs ∧ PSt N w a b4 b5 b6 (g : Int) (.slice q k cap) g6 wr) (fun i _ => m - (intOf i).toNat)
          case atStart => exact ⟨0, [], l2, none, 0, [], Nat.zero_le _, rfl, rfl, by have := HLE_l1.out; have := HLE_l2.out; omega, by rw [Nat.sub_zero]; cases takeBs m l2 <;> simp [Except.map], HR_l2.out, ⟨⟨rfl, .inl ⟨rfl, rfl⟩⟩, fun i h => absurd h (by simp)⟩, HP3.out⟩
          case round =>
            obtain ⟨k, dn, li, q, cap, cs, hkm, rfl, hdn, hll, hnx, hR, hO, hP⟩ := hrel
            have HDN := Lib.hid hdn
            have HX0 := Lib.hid (show RdP p N wr.drew a li ∧ HdsC wr.drew H (.slice q k cap) dn cs ∧ PSt N w a b4 b5 b6 (g : Int) (.slice q k cap) g6 wr.drew from ⟨rdP_below hR (Below.refl _ _).drew, hO.keep (Nat.le_refl _) (fun _ _ _ => rfl), PSt.below L hP hP.lo.size (Below.refl _ _).drew⟩)
            by_cases hlt : k < m
            · have z1 : (k : Int) < (m : Int) := by omega
              have z2 : decide ((k : Int) < (m : Int)) = true := decide_eq_true z1
              have hw6 : IntKind.i64.wrap ((k : Int) + 1) = (k : Int) + 1 := by rw [IntKind.wrap_i64]; have := HM.out; omega
              obtain ⟨j, hj⟩ : ∃ j, m - k = j + 1 := ⟨m - k - 1, by omega⟩
              have hj2 : m - (k + 1) = j := by omega
              obtain ⟨y, hy⟩ : ∃ y, nextI li 1 4096 = y := ⟨_, rfl⟩
              obtain ⟨dx, k4, c4⟩ := y
              have HBY := Lib.hid (fun (u : World) (hu : RdP p N u a li) => (show Calls Tryz.prog 67 #[.pointer (some a), .int .i64 4096] u (RdPost RdP ThrP p N u a li c4 k4 fun v w' => OwnB w' u.heap.size v dx.b) from by have := rdP_bytes p N u a li 4096 hu; rw [hy] at this; exact this))
              rw [hj, takeBs, hy] at hnx
              by_cases hc4 : c4 = 0
              · subst hc4
                rw [stp_ok rfl] at hnx
                obtain ⟨r, hd⟩ : ∃ d, dx.b = d := ⟨_, rfl⟩
                rw [hd] at HBY hnx
                obtain ⟨li2, hli2⟩ : ∃ l', li.drop k4 = l' := ⟨_, rfl⟩
                rw [hli2] at hnx
                have HLI2 := Lib.hid hli2
                have HLL2 := Lib.hid (show li2.length ≤ l.length from by rw [← hli2, List.length_drop]; omega)
                have HNX := Lib.hid (show takeBs m l2 = (takeBs (m - (k + 1)) li2).map (fun x => (dn ++ [r] ++ x.1, x.2)) from by rw [hnx, hj2]; cases takeBs j li2 <;> simp [Except.map])
                have HDL := Lib.hid (show k + 1 < 100000000 by have := HM.out; omega)
                have HSK := Lib.hid (fun (z1 z2 : World) (hx : RdP p N z1 a li ∧ HdsC z1 H (.slice q k cap) dn cs ∧ PSt N w a b4 b5 b6 (g : Int) (.slice q k cap) g6 z1) (hk : Kp a.block z1 z2) (hr : RdP p N z2 a li2) => (show RdP p N z2 a li2 ∧ HdsC z2 H (.slice q k cap) dn cs ∧ PSt N w a b4 b5 b6 (g : Int) (.slice q k cap) g6 z2 from
                  ⟨hr, hx.2.1.keep hk.size (fun c h1 h2 => hk.block c h2 (by have := L.nw; have := HH.out; omega)), PSt.kp L hx.2.2 hk⟩))
                have HSA := Lib.hid (fun (z1 z2 : World) (hx : RdP p N z1 a li2 ∧ HdsC z1 H (.slice q k cap) dn cs ∧ PSt N w a b4 b5 b6 (g : Int) (.slice q k cap) g6 z1) (hb : Below z1.heap.size z1 z2) => (show RdP p N z2 a li2 ∧ HdsC z2 H (.slice q k cap) dn cs ∧ PSt N w a b4 b5 b6 (g : Int) (.slice q k cap) g6 z2 from
                  ⟨rdP_below hx.1 hb, hx.2.1.keep hb.size (fun c h1 h2 => hb.block c h2), PSt.below L hx.2.2 hx.2.2.lo.size hb⟩))
                have HSB := Lib.hid (fun (z1 z2 : World) (q5 : Option Addr) (c5 : Nat) (cs5 : List Value) (hx : RdP p N z1 a li2 ∧ HdsC z1 H (.slice q k cap) dn cs ∧ PSt N w a b4 b5 b6 (g : Int) (.slice q k cap) g6 z1) (ho : HdsC z2 H (.slice q5 (k + 1) c5) (dn ++ [r]) cs5) (hb : Below H z1 z2) => (show RdP p N z2 a li2 ∧ HdsC z2 H (.slice q5 (k + 1) c5) (dn ++ [r]) cs5 ∧ PSt N w a b4 b5 b6 (g : Int) (.slice q k cap) g6 z2 from
                  ⟨rdP_keepM hx.1 (by have := L.nw; have := HH.out; omega) hb, ho, PSt.below L hx.2.2 (by have := HH.out; omega) hb⟩))
                have HSC := Lib.hid (fun (z1 : World) (q5 : Option Addr) (c5 : Nat) (cs5 : List Value) (hx : RdP p N z1 a li2 ∧ HdsC z1 H (.slice q5 (k + 1) c5) (dn ++ [r]) cs5 ∧ PSt N w a b4 b5 b6 (g : Int) (.slice q k cap) g6 z1) => (show RdP p N (z1.setCell ⟨b5, 0, none⟩ (.slice q5 (k + 1) c5)) a li2 ∧ HdsC (z1.setCell ⟨b5, 0, none⟩ (.slice q5 (k + 1) c5)) H (.slice q5 (k + 1) c5) (dn ++ [r]) cs5 ∧ PSt N w a b4 b5 b6 (g : Int) (.slice q5 (k + 1) c5) g6 (z1.setCell ⟨b5, 0, none⟩ (.slice q5 (k + 1) c5)) from by
                  have hk : Kp b5 z1 (z1.setCell ⟨b5, 0, none⟩ (.slice q5 (k + 1) c5)) := (Kp.refl _ _).setCell 0 _
                  exact ⟨rdP_box hx.1 L.n5 (fun h0 c o e => (HPP.out (by have := HLL2.out; omega) c o e).2.1) hk, hx.2.1.keep hk.size (fun c h1 h2 => hk.block c h2 (by have := L.n5; have := L.na; have := L.nw; have := HH.out; omega)), PSt.set5 L hx.2.2 _⟩))
                clear hR hO hP hnx hy hdn hj hj2 hd hli2 hll
                go_wp2
                refine wp_region_noPanic ?_
                refine wp_region_any (by kernel_rfl) ?_
                try (change wpAny _ _ _ _ _ _ _ (World.drew _))
                have HX := Lib.hid (HX0.out)
                generalize wr.drew = x at HX ⊢
                refine wpAny_take (i := 1) (v := ?_) rfl (by kernel_rfl) (by kernel_rfl) (by kernel_rfl) (fun _ _ _ h => h) (Or.inl ⟨by rfl, ?_⟩) ?_
                rotate_left 1
                · (intro w; go_simp; try with_reducible rfl)
                try simp only [Act.put, List.setIfInBounds_toArray, List.set_cons_zero, List.set_cons_succ]
                refine wpAny_ready (rs := [0, 2]) (by kernel_rfl) (by simp) ?_
                refine (AllReady.cons (by simp only [List.getElem?_toArray, List.getElem?_cons_succ, List.getElem?_cons_zero]; exact rfl) (fun K hK => ?_) (AllReady.cons (by simp only [List.getElem?_toArray, List.getElem?_cons_succ, List.getElem?_cons_zero]; exact rfl) (fun K hK => ?_) AllReady.nil))
                · have hcc := HX.out.2.2.c5
                  go_simp
                  refine hK _ _ ?_
                  clear hK K hcc
                  try simp only [Act.put, List.setIfInBounds_toArray, List.set_cons_zero, List.set_cons_succ]
                  refine wpAny_ready (rs := [2]) (by kernel_rfl) (by simp) ?_
                  refine (AllReady.cons (by simp only [List.getElem?_toArray, List.getElem?_cons_succ, List.getElem?_cons_zero]; exact rfl) (fun K hK => ?_) AllReady.nil)
                  go_simp
                  refine (HBY.out x HX.out.1).mono ?_
                  rintro e x2 ⟨hK2, h2⟩
                  obtain ⟨-, ⟨v, rfl, hval⟩, hR2⟩ := h2.resolve_right (fun h => h.1 rfl)
                  obtain ⟨pb, cb, hvb, hsb, hpb, hlb⟩ := hval.shape
                  subst hvb
                  rw [HLI2.out] at hR2
                  have HNB := Lib.hid (show Sl x2 pb r ∧ (pb = none → cb = 0) ∧ r.length ≤ cb ∧ ∀ c o, pb = some ⟨c, o, none⟩ → H ≤ c ∧ c < x2.heap.size ∧ (Value.slice q k cap).ownBlock ≠ some c from ⟨hsb, hpb, hlb, fun c o e => ⟨by have := (hval.lt c (by rw [e]; rfl)).1; have := HX.out.2.2.lo.size; have := HH.out; omega, (hval.lt c (by rw [e]; rfl)).2, fun e2 => by have h1 := (HX.out.2.1.1.lt c e2).2; have h3 := (hval.lt c (by rw [e]; rfl)).1; omega⟩⟩)
                  have HX := Lib.hid (HSK.out x x2 HX.out hK2 hR2)
                  clear hK2 hR2 h2 hval hsb hpb hlb
                  have HKK := Lib.hid hK
                  clear hK
                  go_wp2_with fail
                  refine HKK.out _ _ ?_
                  clear HKK K
                  try simp only [Act.put, List.setIfInBounds_toArray, List.set_cons_zero, List.set_cons_succ]
                  refine wpAny_ready (rs := [3]) (by kernel_rfl) (by simp) ?_
                  refine (AllReady.cons (by simp only [List.getElem?_toArray, List.getElem?_cons_succ, List.getElem?_cons_zero]; exact rfl) (fun K hK => ?_) AllReady.nil)
                  go_simp
                  obtain ⟨x23, hy⟩ : ∃ y, (x2.alloc (.cells #[.slice pb r.length cb] 53)) = y := ⟨_, rfl⟩
                  have hbn : Below x2.heap.size x2 x23 := by rw [← hy]; exact below_newR _ _
                  have HLS := Lib.hid (show LsC x23 (some ⟨x2.heap.size, 0, none⟩) [.slice pb r.length cb] from by rw [← hy]; exact lsc_one11 x2 _ _)
                  have HNB := Lib.hid (show Sl x23 pb r ∧ (pb = none → cb = 0) ∧ r.length ≤ cb ∧ ∀ c o, pb = some ⟨c, o, none⟩ → H ≤ c ∧ c < x23.heap.size ∧ (Value.slice q k cap).ownBlock ≠ some c from ⟨HNB.out.1.of_below hbn, HNB.out.2.1, HNB.out.2.2.1, fun c o e => ⟨(HNB.out.2.2.2 c o e).1, Nat.lt_of_lt_of_le (HNB.out.2.2.2 c o e).2.1 hbn.size, (HNB.out.2.2.2 c o e).2.2⟩⟩)
                  have HX := Lib.hid (HSA.out x2 x23 HX.out hbn)
                  clear hbn
                  refine hK _ _ ?_
                  clear hK K
                  rw [hy]
                  clear hy
                  try simp only [Act.put, List.setIfInBounds_toArray, List.set_cons_zero, List.set_cons_succ]
                  refine wpAny_ready (rs := [4]) (by kernel_rfl) (by simp) ?_
                  refine (AllReady.cons (by simp only [List.getElem?_toArray, List.getElem?_cons_succ, List.getElem?_cons_zero]; exact rfl) (fun K hK => ?_) AllReady.nil)
                  have hO1 : x23.ownsRow H 53 1 (.slice q k cap) k cs := by have h := HX.out.2.1.1; rw [HDN.out] at h; exact h
                  refine step_appendK elR x23 rfl (.tmp 11) (.tmp 14) rfl H rfl hO1 _ 1 1 [.slice pb r.length cb] rfl rfl HLS.out (fun h => by cases h) (fun u hu => by rw [List.mem_singleton] at hu; subst hu; rfl) HDL.out (by have := HX.out.2.2.lo.size; have := HH.out; omega) ?_
                  rintro v5 x234 hO5 hg5 ho5
                  have hB5 : Below H x23 x234 := (Below.refl _ _).grown hg5 (by have := HX.out.2.2.lo.size; have := HH.out; omega) (fun g hg => (HX.out.2.1.1.lt g hg).1)
                  obtain ⟨cs5, hcs5⟩ := HdsC.push HX.out.2.1 HNB.out.1 HNB.out.2.1 HNB.out.2.2.1 HNB.out.2.2.2 (by rw [HDN.out]; exact hO5) hg5 ho5
                  obtain ⟨q5, c5, hve⟩ := own_sliceR hO5
                  subst hve
                  have HY := Lib.hid (HSB.out x23 x234 q5 c5 cs5 HX.out hcs5 hB5)
                  clear hO5 hg5 ho5 hB5 hcs5 hO1
                  refine hK _ _ ?_
                  clear hK K
                  try simp only [Act.put, List.setIfInBounds_toArray, List.set_cons_zero, List.set_cons_succ]
                  refine wpAny_ready (rs := [5]) (by kernel_rfl) (by simp) ?_
                  refine (AllReady.cons (by simp only [List.getElem?_toArray, List.getElem?_cons_succ, List.getElem?_cons_zero]; exact rfl) (fun K hK => ?_) AllReady.nil)
                  have hcc := HY.out.2.2.c5
                  have hcf := HY.out.2.2.f5
                  go_simp
                  refine hK _ _ ?_
                  clear hK K
                  have HZ := Lib.hid (HSC.out x234 q5 c5 cs5 HY.out)
                  clear hcc hcf
                  try simp only [Act.put, List.setIfInBounds_toArray, List.set_cons_zero, List.set_cons_succ]
                  refine wpAny_done (by kernel_rfl) ?_ _
                  refine NoPanic.normal ?_
                  go_wp2
                  go_roundw
                  case rel => exact ⟨k + 1, dn ++ [r], li2, q5, c5, cs5, by omega, by go_num, by rw [List.length_append, HDN.out]; rfl, HLL2.out, HNX.out, HZ.out.1, HZ.out.2.1, HZ.out.2.2⟩
                  case measure => simp [intOf]; omega
                · go_simp
                  refine (HBY.out x HX.out.1).mono ?_
                  rintro e x2 ⟨hK2, h2⟩
                  obtain ⟨-, ⟨v, rfl, hval⟩, hR2⟩ := h2.resolve_right (fun h => h.1 rfl)
                  obtain ⟨pb, cb, hvb, hsb, hpb, hlb⟩ := hval.shape
                  subst hvb
                  rw [HLI2.out] at hR2
                  have HNB := Lib.hid (show Sl x2 pb r ∧ (pb = none → cb = 0) ∧ r.length ≤ cb ∧ ∀ c o, pb = some ⟨c, o, none⟩ → H ≤ c ∧ c < x2.heap.size ∧ (Value.slice q k cap).ownBlock ≠ some c from ⟨hsb, hpb, hlb, fun c o e => ⟨by have := (hval.lt c (by rw [e]; rfl)).1; have := HX.out.2.2.lo.size; have := HH.out; omega, (hval.lt c (by rw [e]; rfl)).2, fun e2 => by have h1 := (HX.out.2.1.1.lt c e2).2; have h3 := (hval.lt c (by rw [e]; rfl)).1; omega⟩⟩)
                  have HX := Lib.hid (HSK.out x x2 HX.out hK2 hR2)
                  clear hK2 hR2 h2 hval hsb hpb hlb
                  have HKK := Lib.hid hK
                  clear hK
                  go_wp2_with fail
                  refine HKK.out _ _ ?_
                  clear HKK K
                  try simp only [Act.put, List.setIfInBounds_toArray, List.set_cons_zero, List.set_cons_succ]
                  refine wpAny_ready (rs := [0, 3]) (by kernel_rfl) (by simp) ?_
                  refine (AllReady.cons (by simp only [List.getElem?_toArray, List.getElem?_cons_succ, List.getElem?_cons_zero]; exact rfl) (fun K hK => ?_) (AllReady.cons (by simp only [List.getElem?_toArray, List.getElem?_cons_succ, List.getElem?_cons_zero]; exact rfl) (fun K hK => ?_) AllReady.nil))
                  · have hcc := HX.out.2.2.c5
                    go_simp
                    refine hK _ _ ?_
                    clear hK K hcc
                    try simp only [Act.put, List.setIfInBounds_toArray, List.set_cons_zero, List.set_cons_succ]
                    refine wpAny_ready (rs := [3]) (by kernel_rfl) (by simp) ?_
                    refine (AllReady.cons (by simp only [List.getElem?_toArray, List.getElem?_cons_succ, List.getElem?_cons_zero]; exact rfl) (fun K hK => ?_) AllReady.nil)
                    go_simp
                    obtain ⟨x23, hy⟩ : ∃ y, (x2.alloc (.cells #[.slice pb r.length cb] 53)) = y := ⟨_, rfl⟩
                    have hbn : Below x2.heap.size x2 x23 := by rw [← hy]; exact below_newR _ _
                    have HLS := Lib.hid (show LsC x23 (some ⟨x2.heap.size, 0, none⟩) [.slice pb r.length cb] from by rw [← hy]; exact lsc_one11 x2 _ _)
                    have HNB := Lib.hid (show Sl x23 pb r ∧ (pb = none → cb = 0) ∧ r.length ≤ cb ∧ ∀ c o, pb = some ⟨c, o, none⟩ → H ≤ c ∧ c < x23.heap.size ∧ (Value.slice q k cap).ownBlock ≠ some c from ⟨HNB.out.1.of_below hbn, HNB.out.2.1, HNB.out.2.2.1, fun c o e => ⟨(HNB.out.2.2.2 c o e).1, Nat.lt_of_lt_of_le (HNB.out.2.2.2 c o e).2.1 hbn.size, (HNB.out.2.2.2 c o e).2.2⟩⟩)
                    have HX := Lib.hid (HSA.out x2 x23 HX.out hbn)
                    clear hbn
                    refine hK _ _ ?_
                    clear hK K
                    rw [hy]
                    clear hy
                    try simp only [Act.put, List.setIfInBounds_toArray, List.set_cons_zero, List.set_cons_succ]
                    refine wpAny_ready (rs := [4]) (by kernel_rfl) (by simp) ?_
                    refine (AllReady.cons (by simp only [List.getElem?_toArray, List.getElem?_cons_succ, List.getElem?_cons_zero]; exact rfl) (fun K hK => ?_) AllReady.nil)
                    have hO1 : x23.ownsRow H 53 1 (.slice q k cap) k cs := by have h := HX.out.2.1.1; rw [HDN.out] at h; exact h
                    refine step_appendK elR x23 rfl (.tmp 11) (.tmp 14) rfl H rfl hO1 _ 1 1 [.slice pb r.length cb] rfl rfl HLS.out (fun h => by cases h) (fun u hu => by rw [List.mem_singleton] at hu; subst hu; rfl) HDL.out (by have := HX.out.2.2.lo.size; have := HH.out; omega) ?_
                    rintro v5 x234 hO5 hg5 ho5
                    have hB5 : Below H x23 x234 := (Below.refl _ _).grown hg5 (by have := HX.out.2.2.lo.size; have := HH.out; omega) (fun g hg => (HX.out.2.1.1.lt g hg).1)
                    obtain ⟨cs5, hcs5⟩ := HdsC.push HX.out.2.1 HNB.out.1 HNB.out.2.1 HNB.out.2.2.1 HNB.out.2.2.2 (by rw [HDN.out]; exact hO5) hg5 ho5
                    obtain ⟨q5, c5, hve⟩ := own_sliceR hO5
                    subst hve
                    have HY := Lib.hid (HSB.out x23 x234 q5 c5 cs5 HX.out hcs5 hB5)
                    clear hO5 hg5 ho5 hB5 hcs5 hO1
                    refine hK _ _ ?_
                    clear hK K
                    try simp only [Act.put, List.setIfInBounds_toArray, List.set_cons_zero, List.set_cons_succ]
                    refine wpAny_ready (rs := [5]) (by kernel_rfl) (by simp) ?_
                    refine (AllReady.cons (by simp only [List.getElem?_toArray, List.getElem?_cons_succ, List.getElem?_cons_zero]; exact rfl) (fun K hK => ?_) AllReady.nil)
                    have hcc := HY.out.2.2.c5
                    have hcf := HY.out.2.2.f5
                    go_simp
                    refine hK _ _ ?_
                    clear hK K
                    have HZ := Lib.hid (HSC.out x234 q5 c5 cs5 HY.out)
                    clear hcc hcf
                    try simp only [Act.put, List.setIfInBounds_toArray, List.set_cons_zero, List.set_cons_succ]
                    refine wpAny_done (by kernel_rfl) ?_ _
                    refine NoPanic.normal ?_
                    go_wp2
                    go_roundw
                    case rel => exact ⟨k + 1, dn ++ [r], li2, q5, c5, cs5, by omega, by go_num, by rw [List.length_append, HDN.out]; rfl, HLL2.out, HNX.out, HZ.out.1, HZ.out.2.1, HZ.out.2.2⟩
                    case measure => simp [intOf]; omega
                  · go_simp
                    obtain ⟨x23, hy⟩ : ∃ y, (x2.alloc (.cells #[.slice pb r.length cb] 53)) = y := ⟨_, rfl⟩
                    have hbn : Below x2.heap.size x2 x23 := by rw [← hy]; exact below_newR _ _
                    have HLS := Lib.hid (show LsC x23 (some ⟨x2.heap.size, 0, none⟩) [.slice pb r.length cb] from by rw [← hy]; exact lsc_one11 x2 _ _)
                    have HNB := Lib.hid (show Sl x23 pb r ∧ (pb = none → cb = 0) ∧ r.length ≤ cb ∧ ∀ c o, pb = some ⟨c, o, none⟩ → H ≤ c ∧ c < x23.heap.size ∧ (Value.slice q k cap).ownBlock ≠ some c from ⟨HNB.out.1.of_below hbn, HNB.out.2.1, HNB.out.2.2.1, fun c o e => ⟨(HNB.out.2.2.2 c o e).1, Nat.lt_of_lt_of_le (HNB.out.2.2.2 c o e).2.1 hbn.size, (HNB.out.2.2.2 c o e).2.2⟩⟩)
                    have HX := Lib.hid (HSA.out x2 x23 HX.out hbn)
                    clear hbn
                    refine hK _ _ ?_
                    clear hK K
                    rw [hy]
                    clear hy
                    try simp only [Act.put, List.setIfInBounds_toArray, List.set_cons_zero, List.set_cons_succ]
                    refine wpAny_ready (rs := [0]) (by kernel_rfl) (by simp) ?_
                    refine (AllReady.cons (by simp only [List.getElem?_toArray, List.getElem?_cons_succ, List.getElem?_cons_zero]; exact rfl) (fun K hK => ?_) AllReady.nil)
                    have hcc := HX.out.2.2.c5
                    go_simp
                    refine hK _ _ ?_
                    clear hK K hcc
                    try simp only [Act.put, List.setIfInBounds_toArray, List.set_cons_zero, List.set_cons_succ]
                    refine wpAny_ready (rs := [4]) (by kernel_rfl) (by simp) ?_
                    refine (AllReady.cons (by simp only [List.getElem?_toArray, List.getElem?_cons_succ, List.getElem?_cons_zero]; exact rfl) (fun K hK => ?_) AllReady.nil)
                    have hO1 : x23.ownsRow H 53 1 (.slice q k cap) k cs := by have h := HX.out.2.1.1; rw [HDN.out] at h; exact h
                    refine step_appendK elR x23 rfl (.tmp 11) (.tmp 14) rfl H rfl hO1 _ 1 1 [.slice pb r.length cb] rfl rfl HLS.out (fun h => by cases h) (fun u hu => by rw [List.mem_singleton] at hu; subst hu; rfl) HDL.out (by have := HX.out.2.2.lo.size; have := HH.out; omega) ?_
                    rintro v5 x234 hO5 hg5 ho5
                    have hB5 : Below H x23 x234 := (Below.refl _ _).grown hg5 (by have := HX.out.2.2.lo.size; have := HH.out; omega) (fun g hg => (HX.out.2.1.1.lt g hg).1)
                    obtain ⟨cs5, hcs5⟩ := HdsC.push HX.out.2.1 HNB.out.1 HNB.out.2.1 HNB.out.2.2.1 HNB.out.2.2.2 (by rw [HDN.out]; exact hO5) hg5 ho5
                    obtain ⟨q5, c5, hve⟩ := own_sliceR hO5
                    subst hve
                    have HY := Lib.hid (HSB.out x23 x234 q5 c5 cs5 HX.out hcs5 hB5)
                    clear hO5 hg5 ho5 hB5 hcs5 hO1
                    refine hK _ _ ?_
                    clear hK K
                    try simp only [Act.put, List.setIfInBounds_toArray, List.set_cons_zero, List.set_cons_succ]
                    refine wpAny_ready (rs := [5]) (by kernel_rfl) (by simp) ?_
                    refine (AllReady.cons (by simp only [List.getElem?_toArray, List.getElem?_cons_succ, List.getElem?_cons_zero]; exact rfl) (fun K hK => ?_) AllReady.nil)
                    have hcc := HY.out.2.2.c5
                    have hcf := HY.out.2.2.f5
                    go_simp
                    refine hK _ _ ?_
                    clear hK K
                    have HZ := Lib.hid (HSC.out x234 q5 c5 cs5 HY.out)
                    clear hcc hcf
                    try simp only [Act.put, List.setIfInBounds_toArray, List.set_cons_zero, List.set_cons_succ]
                    refine wpAny_done (by kernel_rfl) ?_ _
                    refine NoPanic.normal ?_
                    go_wp2
                    go_roundw
                    case rel => exact ⟨k + 1, dn ++ [r], li2, q5, c5, cs5, by omega, by go_num, by rw [List.length_append, HDN.out]; rfl, HLL2.out, HNX.out, HZ.out.1, HZ.out.2.1, HZ.out.2.2⟩
                    case measure => simp [intOf]; omega
              · have HCN := Lib.hid hc4
                rw [stp_no hc4] at hnx
                have hT := HT.out
                rw [hnx] at hT
                dsimp only [Except.map] at hT
                subst hT
                clear hR hO hP hnx hy hdn hj hj2 hc4 HT hll
                go_wp2
                refine wp_region_any (by kernel_rfl) ?_
                try (change wpAny _ _ _ _ _ _ _ (World.drew _))
                have HX := Lib.hid (HX0.out)
                generalize wr.drew = x at HX ⊢
                refine wpAny_take (i := 1) (v := ?_) rfl (by kernel_rfl) (by kernel_rfl) (by kernel_rfl) (fun _ _ _ h => h) (Or.inl ⟨by rfl, ?_⟩) ?_
                rotate_left 1
                · (intro w; go_simp; try with_reducible rfl)
                try simp only [Act.put, List.setIfInBounds_toArray, List.set_cons_zero, List.set_cons_succ]
                refine wpAny_ready (rs := [0, 2]) (by kernel_rfl) (by simp) ?_
                refine (AllReady.cons (by simp only [List.getElem?_toArray, List.getElem?_cons_succ, List.getElem?_cons_zero]; exact rfl) (fun K hK => ?_) (AllReady.cons (by simp only [List.getElem?_toArray, List.getElem?_cons_succ, List.getElem?_cons_zero]; exact rfl) (fun K hK => ?_) AllReady.nil))
                · have hcc := HX.out.2.2.c5
                  go_simp
                  refine hK _ _ ?_
                  clear hK K hcc
                  try simp only [Act.put, List.setIfInBounds_toArray, List.set_cons_zero, List.set_cons_succ]
                  refine wpAny_ready (rs := [2]) (by kernel_rfl) (by simp) ?_
                  refine (AllReady.cons (by simp only [List.getElem?_toArray, List.getElem?_cons_succ, List.getElem?_cons_zero]; exact rfl) (fun K hK => ?_) AllReady.nil)
                  go_simp
                  refine (HBY.out x HX.out.1).mono ?_
                  rintro e y3 ⟨hK3, ⟨hcc, -⟩ | ⟨hcc, v, hv, rfl⟩⟩
                  · exact absurd hcc HCN.out
                  · exact ⟨rfl, (PSt.kp L HX.out.2.2 hK3).lo, (PSt.kp L HX.out.2.2 hK3).be, HCN.out, v, hv, rfl⟩
                · go_simp
                  refine (HBY.out x HX.out.1).mono ?_
                  rintro e y3 ⟨hK3, ⟨hcc, -⟩ | ⟨hcc, v, hv, rfl⟩⟩
                  · exact absurd hcc HCN.out
                  · exact ⟨rfl, (PSt.kp L HX.out.2.2 hK3).lo, (PSt.kp L HX.out.2.2 hK3).be, HCN.out, v, hv, rfl⟩
            · have z1 : ¬ (k : Int) < (m : Int) := by omega
              have z2 : decide ((k : Int) < (m : Int)) = false := decide_eq_false z1
              obtain rfl : k = m := by omega
              rw [show k - k = 0 by omega, takeBs] at hnx
              have hT := HT.out
              rw [hnx] at hT
              dsimp only [Except.map] at hT
              rw [List.append_nil] at hT
              have HP4 := Lib.hid hP
              have HDX := Lib.hid hO
              have HLI := Lib.hid hll
              have HR4 := Lib.hid hR
              clear hR hO hP hnx hdn HT hll
              obtain ⟨y, hy⟩ : ∃ y, nextI li 4 0 = y := ⟨_, rfl⟩
              obtain ⟨dg, kx, c⟩ := y
              have HC := Lib.hid (rdP_digest p N wr a li HR4.out)
              rw [hy] at HC hT
              try dsimp only at HC
              by_cases hc : c = 0
              · subst hc
                rw [stp_ok rfl] at hT
                try dsimp only at hT
                have HE_l4 := Lib.hid hy
                obtain ⟨l4, hl⟩ : ∃ l', li.drop kx = l' := ⟨_, rfl⟩
                have HLE_l4 := Lib.hid (show l4.length ≤ li.length from by rw [← hl, List.length_drop]; omega)
                rw [hl] at hT
                have HLD := Lib.hid hl
                have HT := Lib.hid hT
                clear hT hl hy
                go_wp2_with fail
                refine HC.out.mono ?_
                rintro e w5 ⟨hK, ⟨-, ⟨v, rfl, hval⟩, hR⟩ | ⟨hcc, -⟩⟩
                · rw [HLD.out] at hR
                  have HP5 := Lib.hid (PSt.kp L HP4.out hK)
                  have HKD_l4 := Lib.hid hK
                  have HR_l4 := Lib.hid hR
                  have hT := HT.out
                  clear HC HT hK hR HLD
                  subst hval
                  have hlen : dg.b.length = 32 := by have := (nextI_code HE_l4.out).1 rfl; rw [this.1, List.length_take]; omega
                  obtain ⟨u8, hst8, hR8', hK8'⟩ := st_row32 HP5.out.r6 dg.b
                  subst hT
                  have HFIN := Lib.hid (show PSt N w a b4 b5 b6 (g : Int) (.slice q k cap) (dgF dg.b) u8 from PSt.put6 L HP5.out hR8' hK8')
                  have HRF := Lib.hid (rdP_box HR_l4.out L.n6 (fun h0 c o e => (HPP.out (by have := HLE_l4.out; have := HLI.out; omega) c o e).2.2) hK8')
                  have HDF := Lib.hid ((HDX.out.keep HKD_l4.out.size (fun c h1 h2 => HKD_l4.out.block c h2 (by have := L.nw; have := HH.out; omega))).keep hK8'.size (fun c h1 h2 => hK8'.block c h2 (by have := L.nw; have := HH.out; have := L.n6; have := L.na; omega)))
                  have HLN := Lib.hid hlen
                  clear hlen hR8' hK8'
                  go_wp2
                  go_end0
                  refine ⟨HFIN.out.lo, HFIN.out.be, rfl, HRF.out, HFIN.out.c4, ⟨_, HFIN.out.c5, ?_⟩, HFIN.out.r6, HLN.out⟩
                  have h := HDF.out
                  rw [← HH.out] at h
                  exact ⟨_, h⟩
                · exact absurd rfl hcc
              · rw [stp_no hc] at hT
                subst hT
                clear hy
                go_wp2_with fail
                refine HC.out.mono ?_
                rintro e wx ⟨hK, ⟨hcc, -⟩ | ⟨hcc, v, hv, rfl⟩⟩
                · exact absurd hcc hc
                · exact ⟨rfl, (PSt.kp L HP4.out hK).lo, (PSt.kp L HP4.out hK).be, hc, v, hv, rfl⟩
        · exact absurd rfl hcc
      · rw [stp_no hc] at hT
        subst hT
        clear hy
        go_wp2_with fail
        clear hw2 cc4 cf4
        refine HC.out.mono ?_
        rintro e wx ⟨hK, ⟨hcc, -⟩ | ⟨hcc, v, hv, rfl⟩⟩
        · exact absurd hcc hc
        · exact ⟨rfl, (PSt.kp L HP2.out hK).lo, (PSt.kp L HP2.out hK).be, hc, v, hv, rfl⟩
    · exact absurd rfl hcc
  · rw [stp_no hc] at hT
    subst hT
    clear hy
    go_wp2_with fail
    refine HC.out.mono ?_
    rintro e wx ⟨hK, ⟨hcc, -⟩ | ⟨hcc, v, hv, rfl⟩⟩
    · exact absurd hcc hc
    · exact ⟨rfl, (PSt.kp L HP0.out hK).lo, (PSt.kp L HP0.out hK).be, hc, v, hv, rfl⟩
end Go.Proofs.YtnmopjefjpifoaaGreatDoor
/- archive.parseRecords. -/
set_option maxRecDepth 100000
namespace Go.Proofs.YtnmopjefjpifoaaGreatDoor
open Go Go.RowKit

attribute [-go_sem] Sha.exec_store
/-- The code of parsing the records: what the first one's bytes tell, or that the paths don't rise. -/
def recsF : List By → Bool → S8 → Nat
  | [], inc, _ => if inc then 0 else 6
  | b :: bs, inc, bf => match parseC b with
    | (c, none) => c
    | (_, some r) => recsF bs (inc && decide (bf < pS r.path)) (pS r.path)
theorem lt_mkS (p q : S8) : Op.bytesLess (mkS p).toList (mkS q).toList = decide (p < q) := by rw [bytesLess_eq, mkS_toList, mkS_toList]
theorem takeRc_tc {l : By} {r : RcT} {rest : By} (h : takeRc l = .ok (r, rest)) : (r.time : Int) < 9223372036854775808 ∧ (r.chg : Int) < 9223372036854775808 := by
  unfold takeRc at h
  obtain ⟨h0, h⟩ := stp_inv h
  obtain ⟨h1, h⟩ := stp_inv h
  obtain ⟨h2, h⟩ := stp_inv h
  obtain ⟨h3, h⟩ := stp_inv h
  have e2 := takeI_le (l := (l.drop (nextI l 2 100).2.1).drop (takeI (l.drop (nextI l 2 100).2.1) maxT).2.1) (most := maxT) (n := _) (k := _) (by rw [← h2])
  have e3 := takeI_le (l := ((l.drop (nextI l 2 100).2.1).drop (takeI (l.drop (nextI l 2 100).2.1) maxT).2.1).drop (takeI ((l.drop (nextI l 2 100).2.1).drop (takeI (l.drop (nextI l 2 100).2.1) maxT).2.1) maxT).2.1) (most := maxT) (n := _) (k := _) (by rw [← h3])
  unfold maxT at e2 e3
  split at h
  · cases h
  · obtain ⟨-, h⟩ := stp_inv h
    split at h
    · injection h with h
      injection h with h1 h2
      subst h1 h2
      exact ⟨by dsimp only [maxT] at *; omega, by dsimp only [maxT] at *; omega⟩
    · obtain ⟨-, h⟩ := stp_inv h
      obtain ⟨-, h⟩ := stp_inv h
      split at h
      · cases h
      · injection h with h
        injection h with h1 h2
        subst h1 h2
        exact ⟨by dsimp only [maxT] at *; omega, by dsimp only [maxT] at *; omega⟩
theorem parseC_some {l : By} {c : Nat} {r : RcT} (h : parseC l = (c, some r)) : c = 0 ∧ goodT r = true ∧ (r.time : Int) < 9223372036854775808 ∧ (r.chg : Int) < 9223372036854775808 ∧ r.path.length ≤ 100 := by
  unfold parseC at h
  split at h
  · injection h with _ h; cases h
  · rename_i r1 l1 hT
    split at h
    · split at h
      · split at h
        · rename_i hg
          injection h with h1 h2
          injection h2 with h2
          subst h1 h2
          exact ⟨rfl, hg, (takeRc_tc hT).1, (takeRc_tc hT).2, (takeRc_len hT).2⟩
        · injection h with _ h; cases h
      · injection h with _ h; cases h
    · injection h with _ h; cases h
theorem stp_err {α β : Type} {x : α × Nat × Nat} {l : By} {f : α → By → Except Nat β} {c : Nat} (h : stp x l f = .error c) (hf : ∀ l', f x.1 l' = .error c → c ≠ 0) : c ≠ 0 := by
  unfold stp at h
  split at h
  · exact hf _ h
  · rename_i hne
    injection h with h
    rw [← h]; exact hne
theorem takeRc_err {l : By} {c : Nat} (h : takeRc l = .error c) : c ≠ 0 := by
  unfold takeRc at h
  refine stp_err h fun l1 h => stp_err h fun l2 h => stp_err h fun l3 h => stp_err h fun l4 h => ?_
  split at h
  · injection h with h; rw [← h]; decide
  · refine stp_err h fun l6 h => ?_
    split at h
    · cases h
    · refine stp_err h fun l7 h => stp_err h fun l8 h => ?_
      split at h
      · injection h with h; rw [← h]; decide
      · cases h
theorem parseC_none {l : By} {c : Nat} (h : parseC l = (c, none)) : c ≠ 0 := by
  unfold parseC at h
  split at h
  · rename_i c' hT
    injection h with h1 _
    rw [← h1]; exact takeRc_err hT
  · split at h
    · split at h
      · split at h
        · injection h with _ h; cases h
        · injection h with h _; rw [← h]; decide
      · injection h with h _; rw [← h]; decide
    · injection h with h _; rw [← h]; decide
/-- What parseRecords tells. -/
def RecPost (w : World) (bs : List By) (e : Ending) (w' : World) : Prop := ∃ mv, e = .returned (.tuple #[mv, .int .i64 ((recsF bs true [] : Nat) : Int)]) ∧ Below w.heap.size w w' ∧
  (recsF bs true [] = 0 → mv = .map (some w.heap.size) ∧ ∃ es : List Ent, MpB w' w.heap.size (es.map entA) ∧ (∀ e ∈ es, DgAt w' e.1 e.2 ∧ goodR e.1 = true ∧ e.1.time < 9223372036854775808 ∧ e.1.chg < 9223372036854775808) ∧ es.length ≤ bs.length)
theorem delA_le (es : List Ent) (p : S8) : (delA es p).length ≤ es.length := List.length_filter_le _ _
attribute [local go_sem ↓] exec_boxP exec_allocP exec_storeP exec_loadP exec_loadP2
attribute [local go_sem] boxP lt_mkS
set_option maxRecDepth 100000 in
set_option maxHeartbeats 8000000 in
theorem recs_any (H : Nat) (w : World) (v : Value) (bs : List By) (h : HdL w H v bs) (hn : bs.length ≤ 128) (hb : ∀ b ∈ bs, b.length ≤ 4096) (hT : Tb w) :
    Calls Tryz.prog 70 #[v] w (RecPost w bs) := by
  obtain ⟨p, cap, rfl, hp, hcap, hpb, hcell⟩ := h.shape
  obtain ⟨N, hN⟩ : ∃ n, w.heap.size = n := ⟨_, rfl⟩
  obtain ⟨n, hln⟩ : ∃ n, bs.length = n := ⟨_, rfl⟩
  obtain ⟨W1, hW1⟩ : ∃ W, w.alloc (.map #[] 0) = W := ⟨_, rfl⟩
  have hB1 : Below w.heap.size w W1 := by rw [← hW1]; exact (Below.refl _ _).alloc (Nat.le_refl _) _
  have hM1 : MpB W1 N [] := by rw [← hW1, ← hN]; exact MpB.made w
  have hmm := @run_makeMap Tryz.prog
  have HC := Lib.hid (fun i (hi : i < n) (u : World) (hu : Below N w u) => (show ∃ c o q d, p = some ⟨c, o, none⟩ ∧ u.cell? ⟨c, o + i, none⟩ = some (.slice q (bs.getD i []).length d) ∧ Sl u q (bs.getD i []) ∧ (q = none → d = 0) ∧ (bs.getD i []).length ≤ d from by
    obtain ⟨c, o, q, d, e, h1, h2, h3⟩ := hcell i (by omega)
    have hu' : Below w.heap.size w u := by rw [hN]; exact hu
    exact ⟨c, o, q, d, e, by rw [hu'.cell (by exact World.block_lt_of_cell? w _ h1)]; exact h1, h2.of_below hu', h3⟩))
  have HT := Lib.hid (fun (u : World) (hu : Below N w u) => hT.on (show Below w.heap.size w u by rw [hN]; exact hu))
  have HB := Lib.hid hb
  have HB1 := Lib.hid (show Below N w W1 by rw [← hN]; exact hB1)
  have HM1 := Lib.hid hM1
  have HN := Lib.hid (And.intro hN (And.intro hln (show n ≤ 128 by omega)))
  obtain ⟨F, hF⟩ : ∃ F, recsF bs true [] = F := ⟨_, rfl⟩
  have HF := Lib.hid hF
  clear h hp hcap hpb hcell hT hb hB1 hM1 hF
  unfold RecPost
  rw [HF.out, hN, hln]
  go_enter Tryz.func70, Tryz.ntmps70
  try rw [hN]
  go_wp2
  try rw [hN]
  clear hmm
  go_loopw [5, 6, 14] (fun v5 v6 v14 wr => ∃ (k : Nat) (inc : Bool) (bf : S8) (es : List Ent), k ≤ n ∧ v14 = .int .i64 (k : Int) ∧ v5 = .bool inc ∧ v6 = .string (mkS bf) ∧ F = recsF (bs.drop k) inc bf ∧ MpB wr N (es.map entA) ∧ Below N w wr ∧ (∀ e ∈ es, DgAt wr e.1 e.2 ∧ goodR e.1 = true ∧ e.1.time < 9223372036854775808 ∧ e.1.chg < 9223372036854775808) ∧ es.length ≤ k) (fun v5 v6 v14 _ => n - (intOf v14).toNat)
  case atStart => exact ⟨0, true, [], [], Nat.zero_le _, rfl, rfl, congrArg Value.string (mkS_lit []), HF.out.symm, HM1.out, HB1.out, (fun e he => by cases he), Nat.le_refl _⟩
  case round =>
    obtain ⟨k, inc, bf, es, hk, rfl, rfl, rfl, hF2, hM, hB, hE, hl⟩ := hrel
    have HM := Lib.hid hM
    have HB2 := Lib.hid hB
    have HE := Lib.hid hE
    have HL := Lib.hid hl
    by_cases hlt : k < n
    · have z1 : (k : Int) < (n : Int) := by omega
      have z2 : decide ((k : Int) < (n : Int)) = true := decide_eq_true z1
      have hw6 : IntKind.i64.wrap ((k : Int) + 1) = (k : Int) + 1 := by rw [IntKind.wrap_i64]; have := HN.out; omega
      obtain ⟨c, o, q, d, hp, hc, hs, hq, hd⟩ := HC.out k hlt wr hB
      subst hp
      have hkb : k < bs.length := by have := HN.out; omega
      have hdr : bs.drop k = bs.getD k [] :: bs.drop (k + 1) := by
        rw [List.drop_eq_getElem_cons hkb, List.getD_eq_getElem?_getD, List.getElem?_eq_getElem hkb]; rfl
      have hmem : bs.getD k [] ∈ bs := by
        rw [List.getD_eq_getElem?_getD, List.getElem?_eq_getElem hkb]; exact List.getElem_mem _
      rw [hdr] at hF2
      have hble := HB.out _ hmem
      obtain ⟨b, hbb⟩ : ∃ b, bs.getD k [] = b := ⟨_, rfl⟩
      rw [hbb] at hF2 hc hs hd hble
      have HPA := Lib.hid (parse10_any b q b.length d wr rfl hs hq hd (by omega) (HT.out wr hB))
      have HQ := Lib.hid (show ∀ cc oo, q = some ⟨cc, oo, none⟩ → True from fun _ _ _ => trivial)
      clear hM hB hE hl hs hq hd hdr hmem hble hbb hkb
      cases hpc : parseC b with
      | mk code x =>
        rw [hpc] at HPA
        rw [recsF, hpc] at hF2
        cases x with
        | none =>
          dsimp only at hF2 HPA
          have hc0 := parseC_none hpc
          subst hF2
          have HC0 := Lib.hid hc0
          have z3 : ¬ ((F : Int) = 0) := by omega
          have z4 : decide ((F : Int) = 0) = false := decide_eq_false z3
          clear hpc hc0
          go_wp2_with fail
          refine HPA.out.mono ?_
          rintro e w2 ⟨R, rfl, hB2, hP⟩
          have hX : Below N w w2 := HB2.out.trans (hB2.mono (by have := HB2.out.size; have := HN.out.1; omega))
          have hst := storeNewP w2 w2.heap.size 44 (rcF rc0) R rfl
          have hY : Below N w (w2.alloc (.cells (tab 54 (rcF R)) 44)) := hX.trans ((below_newR _ _).mono (by have := hX.size; have := HN.out.1; omega))
          have HY := Lib.hid hY
          obtain ⟨W3, hW3⟩ : ∃ W, w2.alloc (.cells (tab 54 (rcF R)) 44) = W := ⟨_, rfl⟩
          rw [hW3] at HY hst
          obtain ⟨V, hV⟩ : ∃ V, rcV R = V := ⟨_, rfl⟩
          rw [hV] at hst ⊢
          clear hB2 hP hc hX hY
          go_wp2
          go_ret2
          exact ⟨_, rfl, HY.out, fun e => absurd e HC0.out⟩
        | some r =>
          obtain ⟨rfl, hgT, htm, hch, hpl⟩ := parseC_some hpc
          dsimp only at hF2 HPA
          have HG := Lib.hid (And.intro hgT (And.intro htm hch))
          have HF3 := Lib.hid hF2
          clear hpc hgT htm hch hF2
          go_wp2_with fail
          refine HPA.out.mono ?_
          rintro e w2 ⟨R, rfl, hB2, q', cap', rfl, hDg, hq'⟩
          have hX : Below N w w2 := HB2.out.trans (hB2.mono (by have := HB2.out.size; have := HN.out.1; omega))
          have hst := storeNewP w2 w2.heap.size 44 (rcF rc0) (r.rc q' cap') rfl
          have hb9 : Below w2.heap.size w2 (w2.alloc (.cells (tab 54 (rcF (r.rc q' cap'))) 44)) := below_newR _ _
          have hRow : Row (w2.alloc (.cells (tab 54 (rcF (r.rc q' cap'))) 44)) w2.heap.size 44 54 (rcF (r.rc q' cap')) := Row.new _ _ _ _
          obtain ⟨W3, hW3⟩ : ∃ W, w2.alloc (.cells (tab 54 (rcF (r.rc q' cap'))) 44) = W := ⟨_, rfl⟩
          rw [hW3] at hst hb9 hRow
          have hY : Below N w W3 := hX.trans (hb9.mono (by have := hX.size; have := HN.out.1; omega))
          have hM3 := (HM.out.of_below hB2).of_below hb9
          have hD3 := hDg.of_below hb9
          have hE3 := fun e he => And.intro (((HE.out e he).1.of_below hB2).of_below hb9) (HE.out e he).2
          have cpath := rc_path hRow
          have ld := loadRT rtP hRow
          have hrp : (r.rc q' cap').path = pS r.path := rfl
          rw [hrp] at cpath
          have HM3 := Lib.hid hM3
          have HX3 := Lib.hid (And.intro hY (And.intro hD3 hE3))
          obtain ⟨b9, hb9'⟩ : ∃ b, w2.heap.size = b := ⟨_, rfl⟩
          rw [hb9'] at hst cpath ld
          obtain ⟨pp, hpp⟩ : ∃ pp, pS r.path = pp := ⟨_, rfl⟩
          rw [hpp] at cpath HF3
          obtain ⟨V, hV⟩ : ∃ V, rcV (r.rc q' cap') = V := ⟨_, rfl⟩
          rw [hV] at hst ld ⊢
          have HV := Lib.hid hV
          have HPP := Lib.hid hpp
          obtain ⟨lt, hlt2⟩ : ∃ x, decide (bf < pp) = x := ⟨_, rfl⟩
          rw [hlt2] at HF3
          have hlk : Op.bytesLess bf pp = lt := by rw [bytesLess_eq]; exact hlt2
          clear hB2 hDg hq' hX hb9 hRow hY hM3 hD3 hE3 hc hV hpp hlt2 hrp
          cases inc
          all_goals
            go_wp2_with (first | (refine wpl_update8 _ rfl _ _ _ rfl mapA strT rfl HM3.out pp rfl V rfl ?_; rintro w4 hM4 hg4 hs4; have HM4 := Lib.hid hM4; have HK4 := Lib.hid (kp_grown hg4); clear hM4 hg4 hs4))
          all_goals
            have hX := HX3.out
            have hk4 := HK4.out
            have hes : ∀ e ∈ setA es (r.rc q' cap', r.ds), DgAt w4 e.1 e.2 ∧ goodR e.1 = true ∧ e.1.time < 9223372036854775808 ∧ e.1.chg < 9223372036854775808 := fun e he => by
              rcases List.mem_cons.1 he with rfl | he
              · exact ⟨hX.2.1.kp_map HM3.out.is hk4, HG.out.1, HG.out.2.1, HG.out.2.2⟩
              · have h := hX.2.2 e (List.mem_filter.1 he).1
                exact ⟨h.1.kp_map HM3.out.is hk4, h.2⟩
            have hset : MpB w4 N ((setA es (r.rc q' cap', r.ds)).map entA) := by
              rw [setA_V]
              have h := HM4.out
              rw [← HV.out, ← HPP.out] at h
              exact h
            have hlen : (setA es (r.rc q' cap', r.ds)).length ≤ k + 1 := by
              unfold setA
              rw [List.length_cons]
              have h1 := delA_le es (r.rc q' cap', r.ds).1.path
              have h2 := HL.out
              omega
            exact ⟨⟨k + 1, _, pp, setA es (r.rc q' cap', r.ds), by omega, by go_num, rfl, rfl, HF3.out, hset, hX.1.trans (hk4.below (Nat.le_refl _) (by have := hX.1.size; have := HN.out.1; omega)), hes, hlen⟩, by simp [intOf]; omega⟩
    · have z1 : ¬ (k : Int) < (n : Int) := by omega
      have z2 : decide ((k : Int) < (n : Int)) = false := decide_eq_false z1
      obtain rfl : k = n := by omega
      rw [List.drop_of_length_le (by have := HN.out; omega), recsF] at hF2
      clear hM hB hE hl
      cases inc
      · have HF3 := Lib.hid hF2
        clear hF2
        go_wp2
        go_ret2
        have h := HF3.out
        simp at h
        subst h
        exact ⟨_, rfl, HB2.out, fun e => by cases e⟩
      · have HF3 := Lib.hid hF2
        clear hF2
        go_wp2
        go_ret2
        have h := HF3.out
        simp at h
        subst h
        exact ⟨_, rfl, HB2.out, fun _ => ⟨rfl, es, HM.out, (fun a b hm => HE.out (a, b) hm), by have := HL.out; have := HN.out; omega⟩⟩
end Go.Proofs.YtnmopjefjpifoaaGreatDoor
