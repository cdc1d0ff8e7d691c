/- Take of the reference. -/
import Derived.Test.YtjpennbmphhipaaTak9
set_option linter.unusedSimpArgs false
set_option linter.unusedVariables false
namespace Go.Proofs.Ytjpennbmphhipaa
open Go Go.RowKit

/-- The vector at the beginning of bytes, by the reference. -/
def takeR (l : List (BitVec 8)) : Option ((Nat → Int) × List (BitVec 8)) :=
  match num7 l with
  | none => none
  | some (c, k) => stepsV c 0 (l.drop k) (fun _ => 0)
theorem stepsV_bound : ∀ (c least : Nat) (l : List (BitVec 8)) (f : Nat → Int), least ≤ 16 → stepsV c least l f ≠ none → c + least ≤ 16
  | 0, least, l, f, h, _ => by omega
  | c + 1, least, l, f, h, hs => by
    by_cases h1 : (rngI l least 15).2.2 = 0
    · obtain ⟨x, hx⟩ : ∃ x, rngI l least 15 = x := ⟨_, rfl⟩
      obtain ⟨r, k, cd⟩ := x
      have hle := rngI_le h1
      rw [hx] at h1 hle
      have h1' : cd = 0 := h1
      subst h1'
      by_cases h2 : (rngI (l.drop k) 1 1099511627776).2.2 = 0
      · obtain ⟨y, hy⟩ : ∃ y, rngI (l.drop k) 1 1099511627776 = y := ⟨_, rfl⟩
        obtain ⟨n, k2, c2⟩ := y
        rw [hy] at h2
        have h2' : c2 = 0 := h2
        subst h2'
        rw [stepsV_one hx hy] at hs
        have hr : (least : Int) ≤ (r : Int) ∧ (r : Int) ≤ 15 := hle
        have := stepsV_bound c (r + 1) _ _ (by omega) hs
        omega
      · exact absurd (stepsV_no2 hx h2) hs
    · exact absurd (stepsV_no1 h1) hs
theorem takeV_eq (l : List (BitVec 8)) : takeV l = takeR l := by
  unfold takeV takeR
  cases e : num7 l with
  | none => rw [rngI_none 0 16 e]; rfl
  | some x =>
    obtain ⟨c, k⟩ := x
    by_cases h : (c : Int) < 0 ∨ 16 < (c : Int)
    · rw [rngI_out e h]
      show none = stepsV c 0 (l.drop k) (fun _ => 0)
      cases hs : stepsV c 0 (l.drop k) (fun _ => 0) with
      | none => rfl
      | some y => have := stepsV_bound c 0 _ _ (by omega) (by rw [hs]; exact fun q => by cases q); omega
    · rw [rngI_in e h]
      rfl
theorem sl_from (q : Option Addr) (n cap k : Nat) (w : World) (hk : k ≤ n) :
    (slT 22 (.slice q n cap) (some (.int .i64 (k : Int))) none none).run Try.prog w = .ok (.value (.slice (cutA q cap k) (n - k) (cap - k))) w := by
  have h1 := run_sliceAt_slice (P := Try.prog) w 22 (.slice q n cap) (some (.int .i64 (k : Int))) none none und35
  rw [run_slice_l (P := Try.prog) w 22 q n cap und35 .i64 (k : Int) (by omega) (by omega), sizeB] at h1
  simp only [slT, Sem.run_bind, h1, Result.andThen_ok, Sem.run_pure]
  simp only [sliced, Int.toNat_natCast, Nat.mul_one, cutA]
attribute [local go_sem ↓] exec_boxA exec_loadA exec_indexA exec_allocA exec_storeA exec_buildA exec_eqlA exec_neqA exec_boxV exec_loadV exec_indexV exec_allocV exec_storeV exec_buildV exec_eqlV exec_neqV
attribute [local go_sem] boxA indexA storeNewA buildA eqlA neqA boxV indexV storeNewV buildV eqlV neqV

attribute [local go_sem ↓] exec_slice
theorem resV3 {fn : Func} {p q r : Tmp} {T : TypeId} (hT : VT T) (h : fn.results = #[.cell p T, .tmp q, .tmp r]) (tmps : Array Value) (w : World) (b : Nat) (T2 : TypeId) (f : Nat → Int) (v u : Value) (hp : tmps.getD p undef = .pointer (some ⟨b, 0, none⟩)) (hq : tmps.getD q undef = v) (hr : tmps.getD r undef = u) (hR : Row w b T2 16 (vf f)) : (results fn tmps).run Try.prog w = .ok (.tuple #[vcV f, v, u]) w := by
  have hp' : tmps[p]?.getD undef = .pointer (some ⟨b, 0, none⟩) := by simpa using hp
  have hq' : tmps[q]?.getD undef = v := by simpa using hq
  have hr' : tmps[r]?.getD undef = u := by simpa using hr
  have hl := run_loadVar_row (P := Try.prog) w b T2 T (tab 16 (vf f)) (0, 0) _ hR hT.und rfl (by rw [hT.size, tab_size])
  unfold vcV
  simp [results, h, hp', hq', hr', asAddr, hl]
/-- What the reference's Take returns. -/
def RTakePost (l : List (BitVec 8)) (w : World) (r : Option ((Nat → Int) × List (BitVec 8))) (e : Ending) (w' : World) : Prop :=
  Below w.heap.size w w' ∧ match r with
    | some (f, rest) => ∃ at_ : Nat, at_ ≤ l.length ∧ rest = l.drop at_ ∧ e = .returned (.tuple #[vcV f, .int .i64 (at_ : Int), .int .i64 0])
    | none => e = .returned (.tuple #[vcV fun _ => 0, .int .i64 0, .int .i64 6])
theorem i64k (i : Nat) (h : i < 9223372036854775807) : IntKind.i64.wrap ((i : Int) + 1) = (i : Int) + 1 := by rw [IntKind.wrap_i64]; omega
theorem i64s9 (a b : Nat) (h : a + b ≤ 10000000) : IntKind.i64.wrap ((a : Int) + (b : Int)) = ((a + b : Nat) : Int) := by rw [IntKind.wrap_i64]; omega
theorem takeI_fits (l : List (BitVec 8)) {n k c : Nat} (h : takeI l 9223372036854775807 = (n, k, c)) : k ≤ l.length := by
  cases e : num7 l with
  | none => rw [takeI_none _ e] at h; injection h with _ h; injection h with h _; omega
  | some x =>
    obtain ⟨a, b⟩ := x
    have hi := num7_inv e
    rw [takeI_some e (by omega)] at h
    injection h with _ h
    injection h with h _
    omega
theorem rngI_of {l : List (BitVec 8)} {n k c : Nat} {lo hi : Int} (h : takeI l 9223372036854775807 = (n, k, c)) : rngI l lo hi = if c = 0 ∧ lo ≤ (n : Int) ∧ (n : Int) ≤ hi then (n, k, 0) else (0, 0, 6) := by
  cases e : num7 l with
  | none =>
    rw [takeI_none _ e] at h
    rw [rngI_none _ _ e, if_neg (by injection h with _ h; injection h with _ h; omega)]
  | some x =>
    obtain ⟨a, b⟩ := x
    have h7 := num7_inv e
    rw [takeI_some e (by omega)] at h
    injection h with h1 h
    injection h with h2 h3
    subst h1 h2 h3
    by_cases g : (a : Int) < lo ∨ hi < (a : Int)
    · rw [rngI_out e g, if_neg (by omega)]
    · rw [rngI_in e g, if_pos (by omega)]
theorem i64m (x : Nat) (h : x < 100000000) : IntKind.i64.wrap (x : Int) = (x : Int) := by rw [IntKind.wrap_i64]; omega
set_option maxRecDepth 100000 in
set_option maxHeartbeats 8000000 in
theorem refTake9_any (l : List (BitVec 8)) (p : Option Addr) (n cap : Nat) (w : World) (hl : l.length = n) (hs : Sl w p l) (hc : n ≤ cap) (hn : n < 1000000) : Calls Try.prog 10 #[.slice p n cap] w (RTakePost l w (takeR l)) := by
  have HST : Hid (Row ((w.alloc (.cells (tab 16 (vf fun _ => 0)) 24)).alloc (.cells (tab 16 (vf fun _ => 0)) 24)) w.heap.size 24 16 (vf fun _ => 0) ∧ Row ((w.alloc (.cells (tab 16 (vf fun _ => 0)) 24)).alloc (.cells (tab 16 (vf fun _ => 0)) 24)) (w.heap.size + 1) 24 16 (vf fun _ => 0) ∧ Below w.heap.size w ((w.alloc (.cells (tab 16 (vf fun _ => 0)) 24)).alloc (.cells (tab 16 (vf fun _ => 0)) 24))) := Lib.hid (twoRows w 24 (vf fun _ => 0) (vf fun _ => 0) 16)
  have HTA := Lib.hid (fun (u : World) (hu : Below w.heap.size w u) (k : Nat) (hk : k ≤ n) => refTake_any (l.drop k) 9223372036854775807 (cutA p cap k) (n - k) (cap - k) u (by rw [List.length_drop, hl]) ((hs.of_below hu).drop (by omega) k))
  have HT0 := Lib.hid (fun (u : World) (hu : Below w.heap.size w u) => refTake_any l 9223372036854775807 p n cap u hl (hs.of_below hu))
  have HLN := Lib.hid hl
  clear hs
  obtain ⟨T, hT⟩ : ∃ T, takeR l = T := ⟨_, rfl⟩
  rw [hT]
  have key : ∀ (c k0 cd : Nat), takeI l 9223372036854775807 = (c, k0, cd) → c < 9223372036854775808 → ((cd = 0 ∧ (-1 : Int) ≤ -1 ∧ (-1 : Int) ≤ 15 ∧ k0 ≤ n ∧ stepsV (c - 0) ((-1 : Int) + 1).toNat (l.drop k0) (fun _ => 0) = T) ∨ (cd = 6 ∧ T = none)) → Calls Try.prog 10 #[.slice p n cap] w (RTakePost l w T) := by
    intro c k0 cd htk hc63 hin
    have HT1 := Lib.hid (HT0.out ((w.alloc (.cells (tab 16 (vf fun _ => 0)) 24)).alloc (.cells (tab 16 (vf fun _ => 0)) 24)) HST.out.2.2)
    rw [htk] at HT1
    unfold tripI at HT1
    have HIN := Lib.hid hin
    clear hin htk hT
    go_enter Try.func10, Try.ntmps10
    go_wp2_with fail
    refine HT1.out.mono ?_
    rintro e w1 ⟨rfl, rfl⟩
    go_wp2
    go_loopw [8, 9, 10, 11] (fun sa sc sl si wr => ∃ (i at_ code : Nat) (last : Int) (f : Nat → Int), i ≤ c ∧ si = .int .i64 i ∧ sa = .int .i64 at_ ∧ sc = .int .i64 code ∧ sl = .int .i64 last ∧ ((code = 0 ∧ -1 ≤ last ∧ last ≤ 15 ∧ at_ ≤ n ∧ stepsV (c - i) (last + 1).toNat (l.drop at_) f = T) ∨ (code = 6 ∧ T = none)) ∧ Row wr w.heap.size 24 16 (vf fun _ => 0) ∧ Row wr (w.heap.size + 1) 24 16 (vf f) ∧ Below w.heap.size w wr) (fun sa sc sl si _ => c - (intOf si).toNat)
    case atStart => exact ⟨0, k0, cd, -1, _, Nat.zero_le _, rfl, rfl, rfl, rfl, HIN.out, HST.out.1, HST.out.2.1, HST.out.2.2⟩
    case round =>
      clear HIN
      obtain ⟨i, at_, code, last, f, hi, rfl, rfl, rfl, rfl, hcase, hZ, hF, hB⟩ := hrel
      have HZ := Lib.hid hZ
      have HF := Lib.hid hF
      have HB := Lib.hid hB
      rcases hcase with ⟨rfl, hl1, hl15, hat, hst⟩ | ⟨rfl, hTn⟩
      · by_cases hic : i < c
        · have HS := Lib.hid hst
          have z1 : (i : Int) < (c : Int) := by omega
          have z2 : decide ((i : Int) < (c : Int)) = true := decide_eq_true z1
          have hci : c - i = (c - (i + 1)) + 1 := by omega
          have hw := i64k i (by omega)
          have HTA1 := Lib.hid (HTA.out wr hB at_ hat)
          have hsl1 := fun u => sl_from p n cap at_ u hat
          obtain ⟨x, hx⟩ : ∃ x, takeI (l.drop at_) 9223372036854775807 = x := ⟨_, rfl⟩
          obtain ⟨who, k, bad⟩ := x
          have hk := takeI_fits (l.drop at_) hx
          rw [List.length_drop, HLN.out] at hk
          have hak : at_ + k ≤ n := by omega
          have HTA2 := Lib.hid (HTA.out wr hB (at_ + k) hak)
          have hsl2 : ∀ u, (slT 22 (.slice p n cap) (some (.int .i64 ((at_ : Int) + (k : Int)))) none none).run Try.prog u = .ok (.value (.slice (cutA p cap (at_ + k)) (n - (at_ + k)) (cap - (at_ + k)))) u := fun u => by have := sl_from p n cap (at_ + k) u hak; rw [show ((at_ + k : Nat) : Int) = (at_ : Int) + (k : Int) by omega] at this; exact this
          have hw2 : IntKind.i64.wrap ((at_ : Int) + (k : Int)) = (at_ : Int) + (k : Int) := by rw [IntKind.wrap_i64]; omega
          rw [hx] at HTA1
          obtain ⟨y, hy⟩ : ∃ y, takeI (l.drop (at_ + k)) 9223372036854775807 = y := ⟨_, rfl⟩
          obtain ⟨m, k2, worse⟩ := y
          rw [hy] at HTA2
          have hk2 := takeI_fits (l.drop (at_ + k)) hy
          rw [List.length_drop, HLN.out] at hk2
          have hw3 : IntKind.i64.wrap ((at_ : Int) + (k : Int) + (k2 : Int)) = (at_ : Int) + (k : Int) + (k2 : Int) := by rw [IntKind.wrap_i64]; omega
          unfold tripI at HTA1 HTA2
          clear hZ hF hB hst
          have hdd : l.drop (at_ + k) = (l.drop at_).drop k := by rw [List.drop_drop]
          have hr1 := rngI_of (lo := (((last + 1).toNat : Nat) : Int)) (hi := 15) hx
          have hr2 := rngI_of (lo := 1) (hi := 1099511627776) (show takeI ((l.drop at_).drop k) 9223372036854775807 = (m, k2, worse) by rw [← hdd]; exact hy)
          have HNO := Lib.hid (fun (hno : ¬ (bad = 0 ∧ worse = 0 ∧ last < (who : Int) ∧ (who : Int) ≤ 15 ∧ 1 ≤ (m : Int) ∧ (m : Int) ≤ 1099511627776)) => (by
            rw [← HS.out, hci]
            by_cases g1 : bad = 0 ∧ (((last + 1).toNat : Nat) : Int) ≤ (who : Int) ∧ (who : Int) ≤ 15
            · rw [if_pos g1] at hr1
              rw [if_neg (by omega)] at hr2
              exact stepsV_no2 hr1 (by rw [hr2]; decide)
            · rw [if_neg g1] at hr1
              exact stepsV_no1 (by rw [hr1]; decide) : T = none))
          have HYES := Lib.hid (fun (hyes : bad = 0 ∧ worse = 0 ∧ last < (who : Int) ∧ (who : Int) ≤ 15 ∧ 1 ≤ (m : Int) ∧ (m : Int) ≤ 1099511627776) => (by
            rw [if_pos (by omega)] at hr1
            rw [if_pos (by omega)] at hr2
            refine ⟨by omega, ?_⟩
            rw [← HS.out, hci, stepsV_one hr1 hr2, show ((who : Int) + 1).toNat = who + 1 by omega, ← List.drop_drop (l := l) (i := k2) (j := at_ + k), hdd] : who < 16 ∧ stepsV (c - (i + 1)) ((who : Int) + 1).toNat (l.drop (at_ + k + k2)) (fun i => if i = who then (m : Int) else f i) = T))
          clear hr1 hr2 hdd hx hy
          go_wp2_with fail
          refine HTA1.out.mono ?_
          rintro e w5 ⟨rfl, rfl⟩
          go_wp2_with fail
          refine HTA2.out.mono ?_
          rintro e w5 ⟨rfl, rfl⟩
          by_cases c0 : bad ≠ 0
          · have d1 : ((bad : Int) == 0) = false := by rw [beq_eq_false_iff_ne]; omega
            have d2 : ¬ (bad : Int) = 0 := by omega
            have HTN := Lib.hid (HNO.out (by omega))
            clear HNO HYES
            go_wp2
            go_roundw
            case rel => exact ⟨i + 1, at_, 6, last, f, by omega, by go_num, rfl, rfl, rfl, .inr ⟨rfl, HTN.out⟩, HZ.out, HF.out, HB.out⟩
            case measure => simp [intOf]; omega
          · have d1 : bad = 0 := by omega
            subst d1
            by_cases c1 : worse ≠ 0
            · have d1 : ((worse : Int) == 0) = false := by rw [beq_eq_false_iff_ne]; omega
              have d2 : ¬ (worse : Int) = 0 := by omega
              have HTN := Lib.hid (HNO.out (by omega))
              clear HNO HYES
              go_wp2
              go_roundw
              case rel => exact ⟨i + 1, at_, 6, last, f, by omega, by go_num, rfl, rfl, rfl, .inr ⟨rfl, HTN.out⟩, HZ.out, HF.out, HB.out⟩
              case measure => simp [intOf]; omega
            · have d1 : worse = 0 := by omega
              subst d1
              by_cases c2 : (who : Int) ≤ last
              · have d3 : decide ((who : Int) ≤ last) = true := decide_eq_true c2
                have HTN := Lib.hid (HNO.out (by omega))
                clear HNO HYES
                go_wp2
                go_roundw
                case rel => exact ⟨i + 1, at_, 6, last, f, by omega, by go_num, rfl, rfl, rfl, .inr ⟨rfl, HTN.out⟩, HZ.out, HF.out, HB.out⟩
                case measure => simp [intOf]; omega
              · have d3 : decide ((who : Int) ≤ last) = false := decide_eq_false c2
                by_cases c3 : (15 : Int) < (who : Int)
                · have d4 : decide ((15 : Int) < (who : Int)) = true := decide_eq_true c3
                  have d4b : 15 < who := by omega
                  have HTN := Lib.hid (HNO.out (by omega))
                  clear HNO HYES
                  go_wp2
                  go_roundw
                  case rel => exact ⟨i + 1, at_, 6, last, f, by omega, by go_num, rfl, rfl, rfl, .inr ⟨rfl, HTN.out⟩, HZ.out, HF.out, HB.out⟩
                  case measure => simp [intOf]; omega
                · have d4 : decide ((15 : Int) < (who : Int)) = false := decide_eq_false c3
                  have d4b : ¬ 15 < who := by omega
                  by_cases c4 : (m : Int) < 1
                  · have d5 : decide ((m : Int) < 1) = true := decide_eq_true c4
                    have d5b : m < 1 := by omega
                    have HTN := Lib.hid (HNO.out (by omega))
                    clear HNO HYES
                    go_wp2
                    go_roundw
                    case rel => exact ⟨i + 1, at_, 6, last, f, by omega, by go_num, rfl, rfl, rfl, .inr ⟨rfl, HTN.out⟩, HZ.out, HF.out, HB.out⟩
                    case measure => simp [intOf]; omega
                  · have d5 : decide ((m : Int) < 1) = false := decide_eq_false c4
                    have d5b : ¬ m < 1 := by omega
                    by_cases c5 : (1099511627776 : Int) < (m : Int)
                    · have d6 : decide ((1099511627776 : Int) < (m : Int)) = true := decide_eq_true c5
                      have d6b : 1099511627776 < m := by omega
                      have HTN := Lib.hid (HNO.out (by omega))
                      clear HNO HYES
                      go_wp2
                      go_roundw
                      case rel => exact ⟨i + 1, at_, 6, last, f, by omega, by go_num, rfl, rfl, rfl, .inr ⟨rfl, HTN.out⟩, HZ.out, HF.out, HB.out⟩
                      case measure => simp [intOf]; omega
                    · have d6 : decide ((1099511627776 : Int) < (m : Int)) = false := decide_eq_false c5
                      have d6b : ¬ 1099511627776 < m := by omega
                      obtain ⟨hw16, hyes⟩ := HYES.out (by omega)
                      have HY := Lib.hid hyes
                      have x6 := HF.out.free who
                      have x5 : wr.cell? ⟨w.heap.size + 1, who, none⟩ = some (.int .i64 (f who)) := HF.out.cell who hw16
                      clear HNO HYES hyes
                      go_wp2
                      go_roundw
                      case rel => exact ⟨i + 1, at_ + k + k2, 0, (who : Int), _, by omega, by go_num, by go_num, rfl, rfl, .inl ⟨rfl, by omega, by omega, by omega, HY.out⟩, HZ.out.of_block (Below.heap_setCell _ _ _ _ (by show w.heap.size ≠ w.heap.size + 1; omega)), (HF.out.set who (.int .i64 (m : Int))).congr fun j _ => by
                        unfold vf
                        by_cases e : j = who
                        · simp [e]
                        · simp [e], HB.out.setCell (by show w.heap.size ≤ w.heap.size + 1; omega) _⟩
                      case measure => simp [intOf]; omega
        · have z1 : ¬ (i : Int) < (c : Int) := by omega
          have z2 : decide ((i : Int) < (c : Int)) = false := decide_eq_false z1
          have hT2 : T = some (f, l.drop at_) := by rw [← hst, show c - i = 0 by omega]; rfl
          subst hT2
          have l3 := loadVT vtA (VecAt.of_row hF (Nat.le_refl _))
          obtain ⟨w5, hs5, hR5, hK5⟩ := storeVT vtA hZ f
          have HR5 := Lib.hid hR5
          have HB5 := Lib.hid (HB.out.trans (hK5.below (Nat.le_refl _) HB.out.size))
          have HAT := Lib.hid hat
          clear hZ hF hB hst hR5 hK5
          go_wp2
          refine bodyPost_ret (resV3 vtA rfl _ w5 w.heap.size 24 f (.int .i64 (at_ : Int)) (.int .i64 0) rfl rfl rfl HR5.out) rfl ?_
          exact ⟨HB5.out, at_, by rw [HLN.out]; exact HAT.out, rfl, rfl⟩
      · subst hTn
        obtain ⟨w5, hs5, hR5, hK5⟩ := storeVT vtA hZ (fun _ => 0)
        have HR5 := Lib.hid hR5
        have HB5 := Lib.hid (HB.out.trans (hK5.below (Nat.le_refl _) HB.out.size))
        clear hZ hF hB hR5 hK5
        by_cases hic : i < c
        · have z1 : (i : Int) < (c : Int) := by omega
          have z2 : decide ((i : Int) < (c : Int)) = true := decide_eq_true z1
          go_wp2
          refine bodyPost_ret (resV3 vtA rfl _ w5 w.heap.size 24 (fun _ => 0) (.int .i64 0) (.int .i64 6) rfl rfl rfl HR5.out) rfl ?_
          exact ⟨HB5.out, rfl⟩
        · have z1 : ¬ (i : Int) < (c : Int) := by omega
          have z2 : decide ((i : Int) < (c : Int)) = false := decide_eq_false z1
          go_wp2
          refine bodyPost_ret (resV3 vtA rfl _ w5 w.heap.size 24 (fun _ => 0) (.int .i64 0) (.int .i64 6) rfl rfl rfl HR5.out) rfl ?_
          exact ⟨HB5.out, rfl⟩
  cases e7 : num7 l with
  | none => exact key 0 0 6 (takeI_none _ e7) (by decide) (.inr ⟨rfl, by rw [← hT]; unfold takeR; rw [e7]⟩)
  | some x =>
    obtain ⟨c, k0⟩ := x
    have hi := num7_inv e7
    exact key c k0 0 (takeI_some e7 (by omega)) hi.1 (.inl ⟨rfl, by omega, by omega, by rw [← hl]; exact hi.2.1, by rw [← hT]; unfold takeR; rw [e7]; rfl⟩)
end Go.Proofs.Ytjpennbmphhipaa
