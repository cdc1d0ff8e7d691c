/- The program's text of a digest. -/
import Derived.Test.YteckafiedpjpgaaDoorText
import Derived.Deep.RegionLaw
set_option linter.unusedSimpArgs false
set_option linter.unusedVariables false
namespace Go.Proofs.YteckafiedpjpgaaDoor
open Go Go.RowKit

attribute [local go_sem ↓] exec_make exec_box exec_bs exec_index
attribute [local go_sem] mk22_64 bx24 bs22_2 bB_shr4 bB_and15 ix_hi ix_lo
theorem step_app {ops : Array Oper} {o : Oper} {a : Act} {w : World} {K : Act → World → Prop} {Q : Exit → Act → World → Prop} {E : Prop} (hgd : o.guard = none) (s x : Operand)
    (ho : o.op = .call { callee := .builtin .append, args := #[s, x], argTypes := #[22, 22] })
    (base : Nat) (v : Value) (l : List (BitVec 8)) (hs : a.eval s = v) (hown : OwnB w base v l) (p : Option Addr) (cap : Nat) (bs : List (BitVec 8)) (hx : a.eval x = .slice p bs.length cap) (hsl : Sl w p bs) (hc : p = none → cap = 0)
    (hn : l.length + bs.length < 1000000000000) (hb : base ≤ w.heap.size)
    (h : ∀ v' w', OwnB w' base v' (l ++ bs) → w.grownBy w' v.ownBlock → K (a.put o.dst v') w') :
    if Region.wanted o (yielded ops a.tmps) = true then Oper.wp Tryd.prog o a w K Q else E := by
  have hw : Region.wanted o (yielded ops a.tmps) = true := by simp [Region.wanted, hgd]
  rw [if_pos hw]
  obtain ⟨v', w', hr, h2, h3⟩ := append_own w base o.type v l hown p cap bs hsl hc hn hb
  unfold Oper.wp execOp
  simp only [ho, resolve, invoke, builtin, Sem.run_bind, Sem.run_pure, Result.andThen_ok, List.map_toArray, List.map_cons, List.map_nil, hs, hx, hr]
  exact h v' w' h2 h3
theorem tb_two (f : Nat → BitVec 8) (k : Nat) : (List.range (2 * (k + 1))).map (tb f) = (List.range (2 * k)).map (tb f) ++ [hx ((f k).toNat / 16), hx ((f k).toNat % 16)] := by
  have e0 : tb f (2 * k) = hx ((f k).toNat / 16) := by
    rw [tb, if_pos (by omega), show 2 * k / 2 = k by omega]
  have e1 : tb f (2 * k + 1) = hx ((f k).toNat % 16) := by
    rw [tb, if_neg (by omega), show (2 * k + 1) / 2 = k by omega]
  rw [show 2 * (k + 1) = 2 * k + 1 + 1 by omega, List.range_succ, List.range_succ]
  simp [e0, e1]
theorem Sl_two (w : World) (x y : BitVec 8) (T : TypeId) : Sl (w.alloc (.cells #[B x, B y] T)) (some ⟨w.heap.size, 0, none⟩) [x, y] := fun j hj => by
  refine ⟨w.heap.size, 0, rfl, ?_⟩
  rw [Nat.zero_add, World.cell?_alloc_new]
  match j, hj with
  | 0, _ => rfl
  | 1, _ => rfl
theorem conv_txt (w : World) (a : Addr) (c : Nat) (f : Nat → BitVec 8) (h : Sl w (some a) ((List.range 64).map (tb f))) : (convert 22 9 (.slice (some a) 64 c)).run Tryd.prog w = .ok (.string (txt f)) w := by
  have := run_convert_bytes_back (P := Tryd.prog) w 22 9 5 a c ((List.range 64).map fun j => UInt8.ofBitVec (tb f j)) Tryd.underlying22 Tryd.underlying5 Tryd.underlying9 (fun j hj => by
    have hj' : j < 64 := by simpa using hj
    obtain ⟨c', o', e, hc⟩ := h j (by simpa using hj')
    injection e with e
    subst e
    rw [Addr.add_mid, hc]
    simp [hj', B_eq'])
  simpa [txt] using this
set_option maxRecDepth 100000 in
set_option maxHeartbeats 2000000 in
theorem text_any (f : Nat → BitVec 8) (w : World) : Calls Tryd.prog 7 #[dgV f] w fun e w' => e = .returned (.string (txt f)) ∧ Below w.heap.size w w' := by
  have hr : Row (w.alloc (.cells (tab 32 fun i => B (f i)) 24)) w.heap.size 24 32 (fun i => B (f i)) := Row.new w 24 32 _
  have hb : Below w.heap.size w (w.alloc (.cells (tab 32 fun i => B (f i)) 24)) := (Below.refl _ _).alloc (Nat.le_refl _) _
  have hs : (w.alloc (.cells (tab 32 fun i => B (f i)) 24)).heap.size = w.heap.size + 1 := by simp
  go_enter Tryd.func7, Tryd.ntmps7
  go_wp2_with fail
  generalize w.alloc (.cells (tab 32 fun i => B (f i)) 24) = w1 at *
  have hO : OwnB (w1.alloc (.cells (zb 64) 5)) w1.heap.size (.slice (some ⟨w1.heap.size, 0, none⟩) 0 64) [] :=
    World.ownsRow_made (e := 5) (size := 1) (base := w1.heap.size) w1 (zb 64) 64 (Nat.le_refl _) (by decide) (by simp [zb, tab])
  have hb2 : Below w1.heap.size w1 (w1.alloc (.cells (zb 64) 5)) := (Below.refl _ _).alloc (Nat.le_refl _) _
  have HR := Lib.hid hr
  have HB := Lib.hid hb
  have HO := Lib.hid hO
  have HB2 := Lib.hid hb2
  have hNle := hb.size
  clear hr hb hO hb2
  rw [show w.heap.size + 1 = w1.heap.size from hs.symm] at *
  have HS := Lib.hid hs
  clear hs
  generalize hN : w.heap.size = N at *
  have HN := Lib.hid hN
  clear hN
  go_loopw [3, 6] (fun v i wr => ∃ k : Nat, k ≤ 32 ∧ i = .int .i64 k ∧ (∃ q c, v = .slice q (2 * k) c) ∧ OwnB wr w1.heap.size v ((List.range (2 * k)).map (tb f)) ∧ Below w1.heap.size w1 wr) (fun _ i _ => 32 - (intOf i).toNat)
  case atStart => exact ⟨0, by decide, rfl, ⟨_, _, rfl⟩, HO.out, HB2.out⟩
  case round =>
    clear HO HB2
    obtain ⟨k, hk, rfl, ⟨q, c, rfl⟩, hO, hB⟩ := hrel
    have HO := Lib.hid hO
    have HBr := Lib.hid hB
    have hsz := hB.size
    by_cases hlt : k < 32
    · have cN : wr.cell? ⟨N, k, none⟩ = some (B (f k)) := (HR.out.of_below hB).cell k hlt
      have HT := Lib.hid (tb_two f k)
      have hd0 : decide ((k : Int) < 32) = true := decide_eq_true (by omega)
      have hl0 : (k : Int) < 32 := by omega
      have HL := Lib.hid (show ((List.range (2 * k)).map (tb f)).length = 2 * k by simp)
      clear hO hB
      generalize hA : 2 * k = A at *
      have HA := Lib.hid hA
      have hA2 : A < 64 := by omega
      clear hA
      go_wp2
      have hOW : OwnB (wr.drew.alloc (.cells #[B (hx ((f k).toNat / 16)), B (hx ((f k).toNat % 16))] 5)) w1.heap.size (.slice q A c) ((List.range A).map (tb f)) := HO.out.of_below (w' := wr.drew.alloc (.cells #[B (hx ((f k).toNat / 16)), B (hx ((f k).toNat % 16))] 5)) (((Below.refl _ _).drew).alloc (Nat.le_refl _) _)
      have hSW := Sl_two wr.drew (hx ((f k).toNat / 16)) (hx ((f k).toNat % 16)) 5
      have HOW := Lib.hid hOW
      have HSW := Lib.hid hSW
      clear hOW hSW
      go_region_law (refine step_app rfl (.tmp 9) (.tmp 20) rfl w1.heap.size (.slice q A c) _ rfl (by exact HOW.out) (some ⟨wr.heap.size, 0, none⟩) 2 [hx ((f k).toNat / 16), hx ((f k).toNat % 16)] rfl (by exact HSW.out) (fun h => by cases h) (by rw [HL.out]; show A + 2 < _; omega) (by simp; omega) ?_; rintro v3 w3 hv3 hg3)
      all_goals
        have hB3 : Below w1.heap.size w1 w3 := ((HBr.out.drew).alloc hsz _).grown hg3 (by simp; omega) (fun g hg => (HO.out.lt g hg).1)
        obtain ⟨q3, c3, hv3', _, _, _⟩ := OwnB.shape hv3
        have e3 : v3 = .slice q3 (A + 2) c3 := by rw [hv3']; simp [HL.out]
        subst e3
        have HB3 := Lib.hid hB3
        have HV3 := Lib.hid hv3
        clear hB3 hv3 hg3 hv3'
        go_wp2
        go_roundw
        case rel =>
          refine ⟨k + 1, by omega, by go_num, ⟨q3, c3, by have := HA.out; congr 1; omega⟩, ?_, HB3.out⟩
          rw [HT.out]
          exact HV3.out
        case measure => simp [intOf]; omega
    · have e32 : k = 32 := by omega
      subst e32
      obtain ⟨q3, c3, hv3', hs3, hc3, _⟩ := hO.shape
      have hq3 : q = q3 ∧ c = c3 := by
        injection hv3' with e1 e2 e3
        exact ⟨e1, e3⟩
      obtain ⟨rfl, rfl⟩ := hq3
      obtain ⟨c', o', rfl, _⟩ := hs3 0 (by simp)
      have hcv := conv_txt wr ⟨c', o', none⟩ c f hs3
      have hd0 : decide (((32 : Nat) : Int) < 32) = false := rfl
      have HF := Lib.hid (show Below N w wr from HB.out.trans (hB.mono hNle))
      clear hO hB hs3 HO HBr hv3'
      go_wp2
      go_ret
      exact ⟨rfl, by rw [HN.out]; exact HF.out⟩
end Go.Proofs.YteckafiedpjpgaaDoor
