/- lane.New, Waiting, Clock; darnerlaw14.awake. -/
import Derived.Test.YtcgilacmdckbfaaDoorTck14
set_option linter.unusedSimpArgs false
set_option maxRecDepth 100000
set_option linter.unusedVariables false
namespace Go.Proofs.YtcgilacmdckbfaaDoor
open Go Go.RowKit

theorem new14_any (w : World) : Calls Tryd.prog 8 #[] w fun e w' => e = .returned (.pointer (some ⟨w.heap.size, 0, none⟩)) ∧ LnAt w' w.heap.size (fun g => w.heap.size ≤ g) ln0 ∧ Below w.heap.size w w' := by
  have hD : LnAt (w.alloc (.cells #[.int .i64 0, .slice none 0 0, .slice none 0 0] 69)) w.heap.size (fun g => w.heap.size ≤ g) ln0 := ⟨.slice none 0 0, .slice none 0 0, World.alloc_heap_new _ _, ⟨rfl, .inl ⟨rfl, rfl⟩⟩, ⟨rfl, .inl ⟨rfl, rfl⟩⟩, Nat.le_refl _, (fun g hg => by cases hg), (fun g hg => by cases hg)⟩
  have HD := Lib.hid hD
  clear hD
  go_enter Tryd.func8, Tryd.ntmps8
  go_wp2
  go_ret
  exact ⟨rfl, HD.out, (Below.refl _ w).alloc (Nat.le_refl _) _⟩
theorem clock_any {w : World} {b : Nat} {F : Nat → Prop} {s : Ln} (h : LnAt w b F s) : Calls Tryd.prog 18 #[.pointer (some ⟨b, 0, none⟩)] w fun e w' => e = .returned (.int .i64 (s.clock : Int)) ∧ w = w' := by
  obtain ⟨v1, v2, g1, -⟩ := h
  have c := (lnCells g1).1
  clear g1
  go_enter Tryd.func18, Tryd.ntmps18
  go_wp2
  go_ret
  exact ⟨rfl, rfl⟩
theorem elStr14 : ElK 48 9 (.string ⟨#[]⟩) 1 16 := ⟨by kernel_rfl, by kernel_rfl, rfl, by decide, by decide⟩
def pathsC (l : List Fl) : List Value := l.map fun f => .string (mkS f.path)
set_option maxHeartbeats 4000000 in
theorem waiting_any {w : World} {b : Nat} {F : Nat → Prop} {s : Ln} (h : LnAt w b F s) (hn : s.en.length < 100000) : Calls Tryd.prog 20 #[.pointer (some ⟨b, 0, none⟩)] w fun e w' => ∃ v, e = .returned v ∧ w'.ownsRow w.heap.size 9 1 v s.en.length (pathsC s.en) ∧ Below w.heap.size w w' := by
  obtain ⟨v1, v2, g1, g2, -⟩ := h
  obtain ⟨p, cap, e, hl, hp, hcap, -⟩ := own_shape g2
  subst e
  obtain ⟨n, hnn⟩ : ∃ n, s.en.length = n := ⟨_, rfl⟩
  obtain ⟨q, hq⟩ : ∃ q, s.en = q := ⟨_, rfl⟩
  rw [hnn] at hcap hn g1
  rw [hq] at hl hnn
  rw [hq]
  rw [hnn]
  have c1 := (lnCells g1).2.1
  have HL := Lib.hid (fun u (hu : Below w.heap.size w u) => hl.of_below hu)
  have HN := Lib.hid hnn
  clear g1 g2 hl hq hnn
  go_enter Tryd.func20, Tryd.ntmps20
  go_wp2
  go_loopw [3, 11] (fun v3 v11 wr => ∃ k : Nat, k ≤ n ∧ v11 = .int .i64 (k : Int) ∧ wr.ownsRow w.heap.size 9 1 v3 k (pathsC (q.take k)) ∧ Below w.heap.size w wr) (fun _ v11 _ => n - (intOf v11).toNat)
  case atStart => exact ⟨0, Nat.zero_le _, rfl, ⟨by simp [pathsC], .inl ⟨rfl, rfl⟩⟩, Below.refl _ _⟩
  case round =>
    rename World => wa
    obtain ⟨k, hk, rfl, hO, hB⟩ := hrel
    by_cases hlt : k < n
    · have y1 : (k : Int) < (n : Int) := by omega
      have y2 : decide ((k : Int) < (n : Int)) = true := decide_eq_true y1
      have hw6 : IntKind.i64.wrap ((k : Int) + 1) = (k : Int) + 1 := by rw [IntKind.wrap_i64]; omega
      obtain ⟨f, hf⟩ : ∃ f, q.getD k fl0 = f := ⟨_, rfl⟩
      have cells : ∀ j, j < 4 → ∃ c o, p = some ⟨c, o, none⟩ ∧ wa.cell? ⟨c, o + k * 4 + j, none⟩ = (flC f)[j]? := fun j hj => by
        obtain ⟨c, o, e, hc⟩ := HL.out wa hB (k * 4 + j) (by rw [flsC_len, HN.out]; omega)
        refine ⟨c, o, e, ?_⟩
        rw [Nat.add_assoc, hc, flsC_get q k j (by rw [HN.out]; exact hlt) hj, hf]
      obtain ⟨c, o, e, x0⟩ := cells 0 (by decide)
      subst e
      have cells' : ∀ j, j < 4 → wa.cell? ⟨c, o + k * 4 + j, none⟩ = (flC f)[j]? := fun j hj => by
        obtain ⟨c', o', e, hc⟩ := cells j hj
        injection e with e
        injection e with e1 e2
        subst e1 e2
        exact hc
      have x1 := cells' 1 (by decide)
      have x2 := cells' 2 (by decide)
      have x3 := cells' 3 (by decide)
      change _ = some (Value.string (mkS f.path)) at x0
      change _ = some (Value.int .i64 (f.blocks : Int)) at x1
      change _ = some (Value.int .i64 (f.done : Int)) at x2
      change _ = some (Value.int .i64 (f.tick : Int)) at x3
      rw [Nat.add_zero] at x0
      have HF := Lib.hid hf
      obtain ⟨p3, k3, e3, -⟩ := own_shape hO
      subst e3
      obtain ⟨W3, hW3⟩ : ∃ W, (wa.alloc (.cells #[.string (mkS f.path), .int .i64 (f.blocks : Int), .int .i64 (f.done : Int), .int .i64 (f.tick : Int)] 74)).alloc (.cells #[.string (mkS f.path)] 9) = W := ⟨_, rfl⟩
      have hB3 : Below wa.heap.size wa W3 := by rw [← hW3]; exact ((Below.refl wa.heap.size wa).alloc (Nat.le_refl _) _).alloc (by simp) _
      have hls : LsC W3 (some ⟨wa.heap.size + 1, 0, none⟩) [.string (mkS f.path)] := by
        rw [← hW3]
        have := LsC.made (wa.alloc (.cells #[.string (mkS f.path), .int .i64 (f.blocks : Int), .int .i64 (f.done : Int), .int .i64 (f.tick : Int)] 74)) [.string (mkS f.path)] 9
        rw [World.size_alloc] at this
        exact this
      have HW3 := Lib.hid hW3
      have HO3 := Lib.hid (And.intro (own_below hO hB3) (And.intro hls (hB.trans (hB3.mono hB.size))))
      clear cells cells' hf hO hB hB3 hls hW3
      go_wp2_with (first | (rw [HW3.out]; refine wpl_appendK elStr14 W3 rfl (.tmp 15) (.tmp 18) rfl w.heap.size (n := k) (v := .slice p3 k k3) (cs := pathsC (q.take k)) rfl HO3.out.1 (some ⟨wa.heap.size + 1, 0, none⟩) 1 1 [.string (mkS f.path)] rfl rfl HO3.out.2.1 (fun h => by cases h) (fun u hu => by simp at hu; subst hu; rfl) (by omega) HO3.out.2.2.size ?_; rintro v4 w4 hO4 hg4 -; have HO4 := Lib.hid hO4; have HB4 := Lib.hid (HO3.out.2.2.grown hg4 HO3.out.2.2.size (fun g hg => (HO3.out.1.lt g hg).1)); clear hO4 hg4))
      refine ⟨⟨k + 1, by omega, by go_num, ?_, HB4.out⟩, by simp [intOf]; omega⟩
      have := HO4.out
      rw [show pathsC (q.take (k + 1)) = pathsC (q.take k) ++ [.string (mkS f.path)] by
        unfold pathsC
        rw [List.take_add_one, List.getElem?_eq_getElem (by rw [HN.out]; exact hlt), List.map_append]
        have e : q[k]'(by rw [HN.out]; exact hlt) = f := by rw [← HF.out, List.getD_eq_getElem?_getD, List.getElem?_eq_getElem (by rw [HN.out]; exact hlt)]; rfl
        rw [e]
        rfl]
      exact this
    · have y1 : ¬ (k : Int) < (n : Int) := by omega
      have y2 : decide ((k : Int) < (n : Int)) = false := decide_eq_false y1
      have hkn : k = n := by omega
      rw [hkn, show q.take n = q by rw [← HN.out, List.take_length]] at hO
      have HO := Lib.hid hO
      have HB := Lib.hid hB
      clear hO hB
      go_wp2
      go_ret
      exact ⟨_, rfl, HO.out, HB.out⟩
theorem kind_one (i : Nat) (hi : i < 26) : kindL [UInt8.ofNat (97 + i)] = 3 := by
  have : ∀ i : Fin 26, kindL [UInt8.ofNat (97 + i.val)] = 3 := by decide +kernel
  exact this ⟨i, hi⟩
end Go.Proofs.YtcgilacmdckbfaaDoor
