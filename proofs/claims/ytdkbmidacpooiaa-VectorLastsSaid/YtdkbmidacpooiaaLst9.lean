/- Last of the program and of the reference. -/
import Derived.Test.YtdkbmidacpooiaaAwk9
import Derived.Test.YtdkbmidacpooiaaOwnI9
import Derived.WalkMore
set_option linter.unusedSimpArgs false
set_option linter.unusedVariables false
namespace Go.Proofs.Ytdkbmidacpooiaa
open Go Go.RowKit

attribute [local go_sem ↓] exec_boxA exec_loadA exec_indexA exec_allocA exec_storeA exec_buildA exec_eqlA exec_neqA exec_boxV exec_loadV exec_indexV exec_allocV exec_storeV exec_buildV exec_eqlV exec_neqV
attribute [local go_sem] boxA indexA storeNewA buildA eqlA neqA boxV indexV storeNewV buildV eqlV neqV

attribute [local go_sem ↓] exec_bs exec_bsV
attribute [local go_sem] bs1I
/-- Is number j of the list behind number k, or the same and earlier? -/
def behindL (l : List (Nat → Int)) (k j : Nat) : Bool := cmpV (l.getD k fun _ => 0) (l.getD j fun _ => 0) == -1 || (cmpV (l.getD k fun _ => 0) (l.getD j fun _ => 0) == 0 && decide (j < k))
def keepI (l : List (Nat → Int)) (k : Nat) : Bool := (List.range l.length).all fun j => !behindL l k j
def lastTo (l : List (Nat → Int)) (k : Nat) : List Nat := (List.range k).filter (keepI l)
def lastL (l : List (Nat → Int)) : List Nat := lastTo l l.length
theorem lastTo_yes {l : List (Nat → Int)} {k : Nat} (h : keepI l k = true) : lastTo l (k + 1) = lastTo l k ++ [k] := by
  unfold lastTo
  rw [List.range_succ, List.filter_append, List.filter_cons, h]
  rfl
theorem lastTo_no {l : List (Nat → Int)} {k : Nat} (h : keepI l k = false) : lastTo l (k + 1) = lastTo l k := by
  unfold lastTo
  rw [List.range_succ, List.filter_append, List.filter_cons, h]
  simp
theorem lastTo_len (l : List (Nat → Int)) (k : Nat) : (lastTo l k).length ≤ k := by
  unfold lastTo
  exact Nat.le_trans (List.length_filter_le _ _) (by rw [List.length_range]; exact Nat.le_refl _)
theorem keepI_no {l : List (Nat → Int)} {k j : Nat} (hj : j < l.length) (h : behindL l k j = true) : keepI l k = false := by
  cases e : keepI l k with
  | false => rfl
  | true =>
    unfold keepI at e
    rw [List.all_eq_true] at e
    have := e j (List.mem_range.2 hj)
    rw [h] at this
    cases this
theorem keepI_yes {l : List (Nat → Int)} {k : Nat} (h : ∀ j, j < l.length → behindL l k j = false) : keepI l k = true := by
  unfold keepI
  rw [List.all_eq_true]
  intro j hj
  rw [h j (List.mem_range.1 hj)]
  rfl
theorem cmpV_four (f g : Nat → Int) : cmpV f g = 0 ∨ cmpV f g = -1 ∨ cmpV f g = 1 ∨ cmpV f g = 2 := by
  unfold cmpV
  split
  · exact .inl rfl
  split
  · exact .inr (.inl rfl)
  split
  · exact .inr (.inr (.inl rfl))
  · exact .inr (.inr (.inr rfl))
theorem i64l (k : Nat) (h : k < 1000) : IntKind.i64.wrap ((k : Int) + 1) = (k : Int) + 1 := by rw [IntKind.wrap_i64]; omega
set_option maxRecDepth 100000 in
set_option maxHeartbeats 4000000 in
theorem last_any (l : List (Nat → Int)) (p : Option Addr) (n cap : Nat) (w : World) (h : VecsAt w p n l) (hn : n ≤ 100) (hc : n ≤ cap) : Calls Try.prog 17 #[.slice p n cap] w fun e w' => ∃ v, e = .returned v ∧ OwnI w' w.heap.size v (lastL l) ∧ Below w.heap.size w w' := by
  have HL := Lib.hid h
  have HLN := Lib.hid h.len
  clear h
  go_enter Try.func17, Try.ntmps17
  go_wp2
  go_step3
  go_wp2
  go_step3
  go_wp2
  go_loopw [3, 11] (fun s i wr => ∃ k : Nat, k ≤ n ∧ i = .int .i64 k ∧ OwnI wr w.heap.size s (lastTo l k) ∧ Below w.heap.size w wr) (fun s i _ => n - (intOf i).toNat)
  case atStart => exact ⟨0, Nat.zero_le _, rfl, OwnI.nil _ _, Below.refl _ _⟩
  case round =>
    rename World => WO
    obtain ⟨k, hk, rfl, hO, hB⟩ := hrel
    obtain ⟨pv, cv, hv, -⟩ := hO.cells
    obtain ⟨len, hlen⟩ : ∃ len, (lastTo l k).length = len := ⟨_, rfl⟩
    have hlk : len ≤ k := by rw [← hlen]; exact lastTo_len l k
    rw [hlen] at hv
    subst hv
    have HLEN := Lib.hid hlen
    have HO := Lib.hid hO
    have HB := Lib.hid hB
    clear hO hlen
    by_cases hlt : k < n
    · have hkl : k < l.length := by rw [HLN.out]; exact hlt
      obtain ⟨c, o, rfl, hat⟩ := HL.out.at_ (by omega)
      have HAT := Lib.hid (fun (u : World) (hu : Below w.heap.size w u) i (hi : i < l.length) => (hat i hi).of_below hu)
      obtain ⟨f, hf⟩ : ∃ f, l[k] = f := ⟨_, rfl⟩
      have vk := HAT.out WO hB k hkl
      rw [hf] at vk
      have l1 := loadVT vtV vk
      have HFK := Lib.hid (show l.getD k (fun _ => 0) = f by rw [List.getD_eq_getElem?_getD, List.getElem?_eq_getElem hkl]; exact hf)
      have ha := (Below.refl WO.heap.size WO).alloc (Nat.le_refl _) (.cells (tab 16 (vf f)) 25)
      have HI := Lib.hid (show Row (WO.alloc (.cells (tab 16 (vf f)) 25)) WO.heap.size 25 16 (vf f) ∧ Below WO.heap.size WO (WO.alloc (.cells (tab 16 (vf f)) 25)) from ⟨Row.new _ _ _ _, ha⟩)
      have z1 : (k : Int) < (n : Int) := by omega
      have z2 : decide ((k : Int) < (n : Int)) = true := decide_eq_true z1
      have hw := i64l k (by omega)
      clear hB hat hf vk ha
      go_wp2
      go_loopw [18] (fun i2 wq => ∃ j : Nat, j ≤ n ∧ i2 = .int .i64 j ∧ (∀ q, q < j → behindL l k q = false) ∧ Row wq WO.heap.size 25 16 (vf f) ∧ Below WO.heap.size WO wq) (fun i2 _ => n - (intOf i2).toNat)
      case atStart => exact ⟨0, Nat.zero_le _, rfl, fun q hq => absurd hq (by omega), HI.out.1, HI.out.2⟩
      case round =>
        clear HI l1
        obtain ⟨j, hj, rfl, hall, hR, hBQ⟩ := hrel
        have HALL := Lib.hid hall
        have HR := Lib.hid hR
        have HBQ := Lib.hid hBQ
        have HBW := Lib.hid (HB.out.trans (hBQ.mono HB.out.size))
        clear hall
        by_cases hjt : j < n
        · have hjl : j < l.length := by rw [HLN.out]; exact hjt
          obtain ⟨g, hg⟩ : ∃ g, l[j] = g := ⟨_, rfl⟩
          have vj := HAT.out wr HBW.out j hjl
          rw [hg] at vj
          have l2 := loadVT vtV vj
          have hgj : l.getD j (fun _ => 0) = g := by rw [List.getD_eq_getElem?_getD, List.getElem?_eq_getElem hjl]; exact hg
          have ha2 := (Below.refl wr.heap.size wr).alloc (Nat.le_refl _) (.cells (tab 16 (vf g)) 25)
          have HRa := Lib.hid (hR.of_below ha2)
          have l3 := loadVT vtV (VecAt.of_row HRa.out (Nat.le_refl _))
          have l4 := loadVT vtV (VecAt.of_row (Row.new wr 25 16 (vf g)) (Nat.le_refl _))
          have HBa := Lib.hid (HBQ.out.trans (ha2.mono HBQ.out.size))
          have HCM := Lib.hid (compare_any f g (wr.alloc (.cells (tab 16 (vf g)) 25)))
          have HBH := Lib.hid (show behindL l k j = (cmpV f g == -1 || (cmpV f g == 0 && decide (j < k))) by unfold behindL; rw [HFK.out, hgj])
          have hfour := cmpV_four f g
          obtain ⟨cc, hcc⟩ : ∃ cc, cmpV f g = cc := ⟨_, rfl⟩
          rw [hcc] at HCM HBH hfour
          have y1 : (j : Int) < (n : Int) := by omega
          have y2 : decide ((j : Int) < (n : Int)) = true := decide_eq_true y1
          have hw2 := i64l j (by omega)
          clear hR hBQ hg vj hgj ha2 hcc
          by_cases hjk : j < k
          · have u1 : (j : Int) < (k : Int) := by omega
            have u2 : decide ((j : Int) < (k : Int)) = true := decide_eq_true u1
            have u3 : decide (j < k) = true := decide_eq_true hjk
            rw [u3] at HBH
            rcases hfour with e | e | e | e <;> subst e <;> (
              go_wp2_with fail
              refine HCM.out.mono ?_
              rintro e w5 ⟨rfl, hB5⟩
              have HB5 := Lib.hid (HBa.out.trans (hB5.mono HBa.out.size))
              have HR5 := Lib.hid (HRa.out.of_below hB5)
              clear hB5 l2 l3 l4
              go_wp2
              go_roundw
              case rel => first
                | exact ⟨j + 1, by omega, by go_num, fun q hq => by
                    by_cases e : q = j
                    · subst e; rw [HBH.out]; rfl
                    · exact HALL.out q (by omega), HR5.out, HB5.out⟩
                | exact ⟨k + 1, by omega, by go_num, by rw [lastTo_no (keepI_no hjl (by rw [HBH.out]; rfl))]; exact HO.out.of_below HB5.out, HB.out.trans (HB5.out.mono HB.out.size)⟩
              case measure => simp [intOf]; omega)
          · have u1 : ¬ (j : Int) < (k : Int) := by omega
            have u2 : decide ((j : Int) < (k : Int)) = false := decide_eq_false u1
            have u3 : decide (j < k) = false := decide_eq_false hjk
            rw [u3] at HBH
            rcases hfour with e | e | e | e <;> subst e <;> (
              go_wp2_with fail
              refine HCM.out.mono ?_
              rintro e w5 ⟨rfl, hB5⟩
              have HB5 := Lib.hid (HBa.out.trans (hB5.mono HBa.out.size))
              have HR5 := Lib.hid (HRa.out.of_below hB5)
              clear hB5 l2 l3 l4
              go_wp2
              go_roundw
              case rel => first
                | exact ⟨j + 1, by omega, by go_num, fun q hq => by
                    by_cases e : q = j
                    · subst e; rw [HBH.out]; rfl
                    · exact HALL.out q (by omega), HR5.out, HB5.out⟩
                | exact ⟨k + 1, by omega, by go_num, by rw [lastTo_no (keepI_no hjl (by rw [HBH.out]; rfl))]; exact HO.out.of_below HB5.out, HB.out.trans (HB5.out.mono HB.out.size)⟩
              case measure => simp [intOf]; omega)
        · have y1 : ¬ (j : Int) < (n : Int) := by omega
          have y2 : decide ((j : Int) < (n : Int)) = false := decide_eq_false y1
          have HYES := Lib.hid (lastTo_yes (keepI_yes fun q hq => HALL.out q (by have := HLN.out; omega)))
          have hal := (Below.refl wr.heap.size wr).alloc (Nat.le_refl _) (.cells #[.int .i64 (k : Int)] 3)
          have HOa := Lib.hid (HO.out.of_below (HBQ.out.trans (hal.mono HBQ.out.size)))
          have HBa := Lib.hid (HBW.out.trans (hal.mono HBW.out.size))
          have hNa : w.heap.size ≤ (wr.alloc (.cells #[.int .i64 (k : Int)] 3)).heap.size := HBa.out.size
          have HXa := Lib.hid (show (wr.alloc (.cells #[.int .i64 (k : Int)] 3)).cell? ⟨wr.heap.size, 0, none⟩ = some (.int .i64 (k : Int)) by rw [World.cell?_alloc_new]; rfl)
          clear hR hBQ hal
          go_wp2_with (first | (refine wpl_pushI _ rfl (.tmp 38) (.tmp 40) rfl w.heap.size (.slice pv len cv) (lastTo l k) rfl HOa.out ⟨wr.heap.size, 0, none⟩ rfl k HXa.out len HLEN.out (by omega) hNa ?_; rintro g7 d7 w7 hO7 hg7 ho7; have HO7 := Lib.hid hO7; have HB7 := Lib.hid (HBa.out.grown hg7 hNa (fun g hg => (HOa.out.lt g hg).1)); clear hO7 hg7 ho7))
          go_roundw
          case rel => exact ⟨k + 1, by omega, by go_num, by rw [HYES.out]; exact HO7.out, HB7.out⟩
          case measure => simp [intOf]; omega
    · have z1 : ¬ (k : Int) < (n : Int) := by omega
      have z2 : decide ((k : Int) < (n : Int)) = false := decide_eq_false z1
      have HKN := Lib.hid (show lastTo l k = lastL l by unfold lastL; rw [HLN.out, show k = n by omega])
      go_wp2
      go_ret
      exact ⟨_, rfl, by rw [← HKN.out]; exact HO.out, HB.out⟩
end Go.Proofs.Ytdkbmidacpooiaa
