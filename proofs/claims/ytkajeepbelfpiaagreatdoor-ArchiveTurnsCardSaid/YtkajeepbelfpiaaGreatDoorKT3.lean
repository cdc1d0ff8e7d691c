/- Merged texts: RunQ7, OnlP7, GodP7, PtbP7, God10, Sam10, Bd10. -/
import Derived.WalkMore
import Derived.Test.YtkajeepbelfpiaaGreatDoorKT2
import Derived.Shelf.Abstract
import Derived.Test.YtkajeepbelfpiaaGreatDoorKT1
import Derived.Deep.RegionHeld3
set_option linter.unusedSimpArgs false
set_option linter.unusedVariables false
/- strings.IndexRune at runes beyond ASCII; strings.ContainsRune. -/
set_option maxRecDepth 100000
namespace Go.Proofs.YtkajeepbelfpiaaGreatDoor
open Go Go.RowKit
attribute [-go_sem] Sha.exec_store

set_option maxRecDepth 1000000 in
set_option maxHeartbeats 4000000 in
/-- The rune that stands for what is no rune: the string's runes are gone through. -/
theorem indexRune_bad (l : S8) (hl : Low5 l) (u : World) : Calls Tryz.prog 244 #[.string (mkS l), .int .i32 65533] u fun e w' => e = .returned (.int .i64 (-1)) ∧ Below u.heap.size u w' := by
  obtain ⟨s, hs⟩ : ∃ s, mkS l = s := ⟨_, rfl⟩
  have hsz : s.size = l.length := by rw [← hs, mkS_size]
  have hget : ∀ i (h : i < s.size), (s[i]).toNat < 128 := by subst hs; exact fun i h => by rw [mkS_get l i h]; exact hl.get i (by rw [mkS_size] at h; exact h)
  rw [hs]
  have HSZ := Lib.hid hsz
  have HGET := Lib.hid hget
  clear hs hsz hget hl
  go_enter Tryz.func244, Tryz.ntmps244
  go_wp2
  go_loopw [5, 6] (fun va vb wr => ∃ pos : Nat, wr.heap[u.heap.size]? = some (.stringIter s pos) ∧ pos ≤ l.length ∧ Below u.heap.size u wr) (fun va vb wr => l.length - wr.iterPos u.heap.size)
  case atStart => exact ⟨0, World.iter_heap _ _ _, Nat.zero_le _, (Below.refl _ _).alloc (Nat.le_refl _) _⟩
  case round =>
    obtain ⟨pos, hk, hle, hB⟩ := hrel
    have HK := Lib.hid hk
    have HB := Lib.hid hB
    have hlt := (Array.getElem?_eq_some_iff.1 hk).1
    by_cases hp : pos < s.size
    · have hpl : pos < l.length := by rw [← HSZ.out]; exact hp
      have ha := HGET.out pos hp
      obtain ⟨c, hc⟩ : ∃ c, (s[pos]).toNat = c := ⟨_, rfl⟩
      rw [hc] at ha
      have hnx : ∀ ty, (Instr.next (.pointer (some ⟨u.heap.size, 0, none⟩)) true ty).run Tryz.prog wr = .ok (.tuple #[.bool true, .int .i64 pos, .int .i32 (c : Int)]) (wr.iterAt u.heap.size s (pos + 1)) := fun ty => by
        rw [Lib.run_next_ascii_at wr u.heap.size s pos ty hk hp (by rw [hc]; exact ha), hc]
      have HB2 := Lib.hid (below_iter (s := s) (pos := pos + 1) hB (Nat.le_refl _) hlt)
      have HK2 := Lib.hid (Lib.iterAt_heap wr u.heap.size s pos (pos + 1) hk)
      generalize wr.iterAt u.heap.size s (pos + 1) = x at *
      have HIP := Lib.hid (iterPos_of hk)
      have HPL := Lib.hid hpl
      have z3 : ((c : Int) == 65533) = false := by simp; omega
      clear hB hk hc ha
      go_wp2
      exact ⟨⟨pos + 1, HK2.out, by have := HPL.out; omega, HB2.out⟩, by rw [iterPos_of HK2.out, HIP.out]; have := HPL.out; omega⟩
    · have hnx : ∀ ty, (Instr.next (.pointer (some ⟨u.heap.size, 0, none⟩)) true ty).run Tryz.prog wr = .ok (.tuple #[.bool false]) wr := fun ty => Lib.run_next_end_at wr u.heap.size s pos ty hk hp
      clear hB hk
      go_wp2
      go_ret
      exact ⟨rfl, HB.out⟩
attribute [local go_sem high] sl_from
set_option maxRecDepth 1000000 in
set_option maxHeartbeats 4000000 in
/-- A rune beyond ASCII: the last byte of its encoding is none of ASCII. -/
theorem indexRune_hi (l : S8) (hl : Low5 l) (r : Nat) (w : World) (hr : 128 ≤ r) (hf : r ≠ 65533) (hv : Utf8.valid (r : Int) = true) : Calls Tryz.prog 244 #[.string (mkS l), .int .i32 (r : Int)] w fun e w' => e = .returned (.int .i64 (-1)) ∧ Below w.heap.size w w' := by
  have HV := Lib.hid (valid_any (r : Int) w)
  rw [hv] at HV
  have z0 : (0 : Int) ≤ (r : Int) := by omega
  have z1 : ¬ (r : Int) < 128 := by omega
  have z2 : decide ((r : Int) < 128) = false := decide_eq_false z1
  have z3 : ((r : Int) == 65533) = false := by simp; omega
  obtain ⟨f1, f2, f3⟩ := encode_facts (r : Int) hv (by omega)
  have hcv : ∀ u, (convert 21 9 (.int .i32 (r : Int))).run Tryz.prog u = .ok (.string (Utf8.encode (r : Int))) u := fun u => run_convert_int_string u 21 9 .i32 (r : Int) (by kernel_rfl) (by kernel_rfl)
  obtain ⟨z, hz⟩ : ∃ z, Utf8.encode (r : Int) = mkS z := ⟨_, (mkS_of _).symm⟩
  rw [hz] at hcv f1 f2 f3
  rw [mkS_size] at f1 f2
  obtain ⟨n, hn⟩ : ∃ n, z.length = n + 1 := ⟨z.length - 1, by omega⟩
  have hch : 128 ≤ chr z n := by
    have := f3 (by rw [mkS_size]; omega)
    rw [mkS_get] at this
    rw [mkS_size] at this
    rw [show n = z.length - 1 by omega]
    exact this
  obtain ⟨c, hc⟩ : ∃ c, chr z n = c := ⟨_, rfl⟩
  have hc256 : c < 256 := by rw [← hc]; exact chr_lt _ _
  have hixz : ∀ u, (Instr.index 9 (.string (mkS z)) (.int .i64 (n : Int))).run Tryz.prog u = .ok (.int .u8 (c : Int)) u := fun u => by rw [ix_S z n u (by omega), hc]
  obtain ⟨b, hb⟩ : ∃ b, chr l n = b := ⟨_, rfl⟩
  have hb128 : b < 128 := by rw [← hb]; exact hl.get n (by rw [hl.1]; omega)
  have hixl : ∀ u, (Instr.index 9 (.string (mkS l)) (.int .i64 (n : Int))).run Tryz.prog u = .ok (.int .u8 (b : Int)) u := fun u => by rw [ix_S l n u (by rw [hl.1]; omega), hb]
  have hne : ((b : Int) == (c : Int)) = false := by simp; omega
  have hsl : ∀ u, (Instr.slice 9 (.string (mkS l)) (some (.int .i64 ((n : Int) + 1))) none none).run Tryz.prog u = .ok (.string (mkS (l.drop (n + 1)))) u := fun u => by
    have := sl_from l (n + 1) u (by rw [hl.1]; omega)
    simpa using this
  have hll : (l.length : Int) = 5 := by rw [hl.1]; rfl
  have hzl : (z.length : Int) = (n : Int) + 1 := by omega
  have hn4 : n < 4 := by omega
  have HI := Lib.hid (fun u => indexByte_any (l.drop (n + 1)) (c : Int) u)
  have e : ((c : Int).toNat.toUInt8) = UInt8.ofNat c := by simp [Nat.toUInt8]
  have hno : Lib.indexByte (l.drop (n + 1)) (UInt8.ofNat c) = -1 := indexByte_none fun x hx e => by
    have h1 := hl.2 x (List.mem_of_mem_drop hx)
    rw [e] at h1
    simp [Nat.mod_eq_of_lt hc256] at h1
    omega
  rw [e, hno] at HI
  have w1 : IntKind.i64.wrap (n : Int) = (n : Int) := by rw [IntKind.wrap_i64]; clear e; omega
  have w2 : IntKind.i64.wrap ((n : Int) + 1) = (n : Int) + 1 := by rw [IntKind.wrap_i64]; clear e; omega
  have w3 : (n : Int) + 1 - 1 = (n : Int) := by omega
  have y1 : (n : Int) < 5 := by omega
  have y2 : decide ((n : Int) < 5) = true := decide_eq_true y1
  generalize l.drop (n + 1) = q at *
  clear hv hr hf hz f1 f2 f3 hch hb hc hc256 hb128 e hno hl hn
  go_enter Tryz.func244, Tryz.ntmps244
  go_wp2_with fail
  refine HV.out.mono ?_
  rintro e w' ⟨rfl, rfl⟩
  go_wp2
  go_step3
  go_wp2
  go_loopw [9, 10, 11, 12] (fun vi vf vo vj wr => vi = .int .i64 (n : Int) ∧ vf = .int .i64 0 ∧ vo = undef ∧ vj = undef ∧ Dr w wr) (fun vi vf vo vj _ => 0)
  case atStart => exact ⟨rfl, rfl, rfl, rfl, Dr.refl w⟩
  case round =>
    obtain ⟨rfl, rfl, rfl, rfl, hD⟩ := hrel
    have HD := Lib.hid hD
    clear hD
    go_wp2
    go_step3
    go_wp2
    go_quiet (fail)
    have HD2 := Lib.hid (HD.out.drewN nq)
    generalize wr.drewN nq = wq at *
    go_wp2
    go_quiet ((go_at_call 254; exact Calls.quiet_of_same ((HI.out _).mono fun e w' ⟨he, hw⟩ => ⟨he, hw.symm⟩)))
    go_wp2
    rw [Exit.noGoto_ret]
    go_wp2
    rw [Exit.noGoto_ret]
    go_ret
    exact ⟨rfl, (HD2.out.drewN nq).below _⟩
/-- What is no ASCII is not found among ASCII. -/
def hasR (l : S8) (r : Nat) : Bool := decide (r < 128) && l.contains (UInt8.ofNat r)
theorem containsRune_any (l : S8) (hl : Low5 l) (r : Nat) (w : World) : Calls Tryz.prog 225 #[.string (mkS l), .int .i32 (r : Int)] w fun e w' => e = .returned (.bool (hasR l r)) ∧ Below w.heap.size w w' := by
  have key : Calls Tryz.prog 244 #[.string (mkS l), .int .i32 (r : Int)] w fun e w' => ∃ i : Int, e = .returned (.int .i64 i) ∧ decide (0 ≤ i) = hasR l r ∧ Below w.heap.size w w' := by
    by_cases h : r < 128
    · refine (indexRune_lo l r w h).mono ?_
      rintro e w' ⟨rfl, rfl⟩
      refine ⟨_, rfl, ?_, Below.refl _ _⟩
      have := (indexByte_has l (UInt8.ofNat r)).1
      unfold hasR
      rw [decide_eq_true h, Bool.true_and]
      cases hc : l.contains (UInt8.ofNat r) with
      | true => exact decide_eq_true (this ▸ hc)
      | false => exact decide_eq_false (fun h0 => by rw [this, hc] at h0; cases h0)
    · have hh : hasR l r = false := by unfold hasR; rw [decide_eq_false h]; rfl
      rw [hh]
      have fin : ∀ e w', (e = Ending.returned (.int .i64 (-1)) ∧ Below w.heap.size w w') → ∃ i : Int, e = .returned (.int .i64 i) ∧ decide (0 ≤ i) = false ∧ Below w.heap.size w w' := fun e w' k => ⟨-1, k.1, rfl, k.2⟩
      by_cases hf : r = 65533
      · subst hf
        exact (indexRune_bad l hl w).mono fin
      · cases hv : Utf8.valid (r : Int) with
        | true => exact (indexRune_hi l hl r w (by omega) hf hv).mono fin
        | false => exact (indexRune_no l r w (by omega) hf hv).mono fun e w' k => fin e w' ⟨k.1, by rw [← k.2]; exact Below.refl _ _⟩
  have HC := Lib.hid key
  clear key hl
  generalize hasR l r = b at *
  go_enter Tryz.func225, Tryz.ntmps225
  go_wp2_with fail
  refine HC.out.mono ?_
  rintro e w2 ⟨i, rfl, hd, hB⟩
  have HB := Lib.hid hB
  clear hB HC
  go_wp2
  go_ret
  exact ⟨by first | rfl | rw [hd], HB.out⟩
/-! ### What a name may have; what a digest's text may have -/
def betw (r a b : Nat) : Bool := decide (a ≤ r) && decide (r ≤ b)
theorem between_any (r a b : Nat) (w : World) : Calls Tryz.prog 224 #[.int .i32 (r : Int), .int .i32 (a : Int), .int .i32 (b : Int)] w fun e w' => e = .returned (.bool (betw r a b)) ∧ w = w' := by
  by_cases h1 : a ≤ r
  · have z1 : (a : Int) ≤ (r : Int) := by omega
    have z2 : decide ((a : Int) ≤ (r : Int)) = true := decide_eq_true z1
    by_cases h2 : r ≤ b
    · have HS := Lib.hid (show betw r a b = true from by unfold betw; rw [decide_eq_true h1, decide_eq_true h2]; rfl)
      have z3 : (r : Int) ≤ (b : Int) := by omega
      have z4 : decide ((r : Int) ≤ (b : Int)) = true := decide_eq_true z3
      go_enter Tryz.func224, Tryz.ntmps224
      go_wp2
      go_ret
      exact ⟨by rw [HS.out]; rfl, rfl⟩
    · have HS := Lib.hid (show betw r a b = false from by unfold betw; rw [decide_eq_true h1, decide_eq_false h2]; rfl)
      have z3 : ¬ (r : Int) ≤ (b : Int) := by omega
      have z4 : decide ((r : Int) ≤ (b : Int)) = false := decide_eq_false z3
      go_enter Tryz.func224, Tryz.ntmps224
      go_wp2
      go_ret
      exact ⟨by rw [HS.out]; rfl, rfl⟩
  · have HS := Lib.hid (show betw r a b = false from by unfold betw; rw [decide_eq_false h1]; rfl)
    have z1 : ¬ (a : Int) ≤ (r : Int) := by omega
    have z2 : decide ((a : Int) ≤ (r : Int)) = false := decide_eq_false z1
    go_enter Tryz.func224, Tryz.ntmps224
    go_wp2
    go_ret
    exact ⟨by rw [HS.out]; rfl, rfl⟩
def moreS : S8 := [45, 95, 46, 126, 43]
theorem more5 : Low5 moreS := ⟨rfl, by decide⟩
def nameR (r : Nat) : Bool := betw r 97 122 || betw r 65 90 || betw r 48 57 || hasR moreS r
set_option maxHeartbeats 1000000 in
theorem inName_any (r : Nat) (w : World) : Calls Tryz.prog 196 #[.int .i32 (r : Int)] w fun e w' => e = .returned (.bool (nameR r)) ∧ Below w.heap.size w w' := by
  have H1 := Lib.hid (fun u => between_any r 97 122 u)
  have H2 := Lib.hid (fun u => between_any r 65 90 u)
  have H3 := Lib.hid (fun u => between_any r 48 57 u)
  have H4 := Lib.hid (show Calls Tryz.prog 225 #[.string ⟨#[45, 95, 46, 126, 43]⟩, .int .i32 (r : Int)] w (fun e w' => e = .returned (.bool (hasR moreS r)) ∧ Below w.heap.size w w') from by have := containsRune_any moreS more5 r w; rw [← mkS_lit] at this; exact this)
  unfold nameR
  generalize betw r 97 122 = b1 at *
  generalize betw r 65 90 = b2 at *
  generalize betw r 48 57 = b3 at *
  generalize hasR moreS r = b4 at *
  cases b1 with
  | true =>
    go_enter Tryz.func196, Tryz.ntmps196
    go_wp2_with fail
    refine (H1.out _).mono ?_
    rintro e w' ⟨rfl, rfl⟩
    go_wp2
    go_ret
    exact ⟨rfl, Below.refl _ _⟩
  | false =>
    cases b2 with
    | true =>
      go_enter Tryz.func196, Tryz.ntmps196
      go_wp2_with fail
      refine (H1.out _).mono ?_
      rintro e w' ⟨rfl, rfl⟩
      go_wp2_with fail
      refine (H2.out _).mono ?_
      rintro e w' ⟨rfl, rfl⟩
      go_wp2
      go_ret
      exact ⟨rfl, Below.refl _ _⟩
    | false =>
      cases b3 with
      | true =>
        go_enter Tryz.func196, Tryz.ntmps196
        go_wp2_with fail
        refine (H1.out _).mono ?_
        rintro e w' ⟨rfl, rfl⟩
        go_wp2_with fail
        refine (H2.out _).mono ?_
        rintro e w' ⟨rfl, rfl⟩
        go_wp2_with fail
        refine (H3.out _).mono ?_
        rintro e w' ⟨rfl, rfl⟩
        go_wp2
        go_ret
        exact ⟨rfl, Below.refl _ _⟩
      | false =>
        go_enter Tryz.func196, Tryz.ntmps196
        go_wp2_with fail
        refine (H1.out _).mono ?_
        rintro e w' ⟨rfl, rfl⟩
        go_wp2_with fail
        refine (H2.out _).mono ?_
        rintro e w' ⟨rfl, rfl⟩
        go_wp2_with fail
        refine (H3.out _).mono ?_
        rintro e w' ⟨rfl, rfl⟩
        go_wp2_with fail
        refine H4.out.mono ?_
        rintro e w2 ⟨rfl, hB⟩
        have HB := Lib.hid hB
        clear hB H4
        go_wp2
        go_ret
        exact ⟨rfl, HB.out⟩
end Go.Proofs.YtkajeepbelfpiaaGreatDoor
/- only, isName, isSum: all characters of a string are permitted. -/
set_option maxRecDepth 100000
namespace Go.Proofs.YtkajeepbelfpiaaGreatDoor
open Go Go.RowKit Go.Shelf
attribute [-go_sem] Sha.exec_store

/-- A function without captured variables answers whether p holds. -/
def Says (g : Nat) (p : Nat → Bool) : Prop := ∀ (r : Nat) (u : World), Calls Tryz.prog g (#[.int .i32 (r : Int)] ++ #[]) u fun e w' => e = .returned (.bool (p r)) ∧ Below u.heap.size u w'
set_option maxHeartbeats 1000000 in
theorem onlyF_tells (g : Nat) (p : Nat → Bool) (hent : ∀ args w, (callFunc g args).run Tryz.prog w = .ok (.enter g args) w) (hS : Says g p) (N B : Nat) (w0 : World) (hc : w0.cell? ⟨B, 0, none⟩ = some (.func (.func g) #[] #[])) (hB : B < N) :
    Tells N w0 223 #[.pointer (some ⟨B, 0, none⟩)] (fun r => !p r) := by
  intro r u _ hu
  have hcu : u.cell? ⟨B, 0, none⟩ = some (.func (.func g) #[] #[]) := by rw [hu.cell (p := ⟨B, 0, none⟩) hB]; exact hc
  have HS := Lib.hid (hS r u)
  clear hS hc hu
  dsimp only
  generalize p r = b at *
  show Calls Tryz.prog 223 #[.int .i32 (r : Int), .pointer (some ⟨B, 0, none⟩)] u _
  go_enter Tryz.func223, Tryz.ntmps223
  go_wp2_with fail
  refine HS.out.mono ?_
  rintro e w2 ⟨rfl, hB2⟩
  have HB := Lib.hid hB2
  clear hB2 HS
  go_wp2
  go_ret
  exact ⟨rfl, HB.out⟩
set_option maxHeartbeats 1000000 in
theorem only_any (g : Nat) (p : Nat → Bool) (hent : ∀ args w, (callFunc g args).run Tryz.prog w = .ok (.enter g args) w) (hS : Says g p) (hp : ∀ r, 128 ≤ r → p r = false) (l : S8) (w : World) :
    Calls Tryz.prog 195 #[.string (mkS l), .func (.func g) #[] #[]] w fun e w' => e = .returned (.bool (l.all fun c => p c.toNat)) ∧ Below w.heap.size w w' := by
  have hT := onlyF_tells g p hent hS (w.heap.size + 1) w.heap.size (w.alloc (.cells #[.func (.func g) #[] #[]] 265)) (World.cell?_alloc_new _ _ _ _) (by omega)
  have HC := Lib.hid (ContainsFunc_any (w.heap.size + 1) _ 223 _ _ (enters_of Tryz.func223 (by kernel_rfl) rfl) hT (fun r hr => by rw [hp r hr]; rfl) l (w.alloc (.cells #[.func (.func g) #[] #[]] 265)) (by simp) (Below.refl _ _))
  have HA := Lib.hid (show (!(l.any fun c => !p c.toNat)) = l.all fun c => p c.toNat from by
    rw [List.not_any_eq_all_not]
    simp)
  have hmf : ∀ (fn : Fn) (first cap : Array Value) (w : World), (Instr.makeFunc fn first cap).run Tryz.prog w = .ok (.func fn first cap) w := fun _ _ _ _ => rfl
  clear hT hS hp hent
  generalize (l.any fun c => !p c.toNat) = b at *
  go_enter Tryz.func195, Tryz.ntmps195
  go_wp2_with fail
  refine HC.out.mono ?_
  rintro e w2 ⟨rfl, hB2⟩
  have HB := Lib.hid (((Below.refl w.heap.size w).alloc (Nat.le_refl _) (.cells #[.func (.func g) #[] #[]] 265)).trans (hB2.mono (by simp)))
  clear hB2 HC
  go_wp2
  go_ret
  exact ⟨by rw [← HA.out]; rfl, HB.out⟩
theorem name_high (r : Nat) (h : 128 ≤ r) : nameR r = false := by
  unfold nameR betw hasR
  simp; omega
set_option maxRecDepth 100000 in
theorem nameF : ∀ c : Fin 256, nameR c.val = signB (UInt8.ofNat c.val) := by decide
theorem name_sign (c : UInt8) : nameR c.toNat = signB c := by
  have := nameF ⟨c.toNat, c.toNat_lt⟩
  simpa using this
set_option maxHeartbeats 1000000 in
theorem isName_any (x : S8) (w : World) : Calls Tryz.prog 165 #[.string (mkS x)] w fun e w' => Gives (.bool (okN x)) w e w' := by
  have HC := Lib.hid (only_any 196 nameR (enters_of Tryz.func196 (by kernel_rfl) rfl) (fun r u => inName_any r u) name_high x w)
  have ha : (x.all fun c => nameR c.toNat) = x.all signB := by congr 1; funext c; exact name_sign c
  rw [ha] at HC
  clear ha
  by_cases a : x = []
  · subst a
    clear HC
    go_enter Tryz.func165, Tryz.ntmps165
    go_wp2
    go_ret
    exact ⟨rfl, Below.refl _ _⟩
  · have a1 : (x == []) = false := beq_eq_false_iff_ne.2 a
    have a2 : x.isEmpty = false := by cases x with | nil => exact absurd rfl a | cons _ _ => rfl
    by_cases b : x = [46]
    · subst b
      clear HC
      go_enter Tryz.func165, Tryz.ntmps165
      go_wp2
      go_ret
      exact ⟨rfl, Below.refl _ _⟩
    · have b1 : (x == [46]) = false := beq_eq_false_iff_ne.2 b
      by_cases d : x = [46, 46]
      · subst d
        clear HC
        go_enter Tryz.func165, Tryz.ntmps165
        go_wp2
        go_ret
        exact ⟨rfl, Below.refl _ _⟩
      · have d1 : (x == [46, 46]) = false := beq_eq_false_iff_ne.2 d
        have HOK := Lib.hid (show okN x = x.all signB from by unfold okN; simp [a, b, d])
        clear a b d
        generalize x.all signB = g at *
        go_enter Tryz.func165, Tryz.ntmps165
        go_wp2_with fail
        refine HC.out.mono ?_
        rintro e w2 ⟨rfl, hB2⟩
        have HB := Lib.hid hB2
        clear hB2 HC
        go_wp2
        go_ret
        exact ⟨by rw [HOK.out]; rfl, HB.out⟩
end Go.Proofs.YtkajeepbelfpiaaGreatDoor
/- Good: all names of a string are names. -/
set_option maxRecDepth 100000
namespace Go.Proofs.YtkajeepbelfpiaaGreatDoor
open Go Go.RowKit Go.Shelf
attribute [-go_sem] Sha.exec_store

attribute [local go_sem] Oper.semAt_some
theorem new_c (w : World) (v : Value) (T : TypeId) : (w.alloc (.cells #[v] T)).cell? ⟨w.heap.size, 0, none⟩ = some v ∧ (w.alloc (.cells #[v] T)).frozen? ⟨w.heap.size, 0, none⟩ = false := ⟨World.cell?_alloc_new _ _ _ _, by go_simp⟩
theorem kept_c {w : World} {a : Addr} {v : Value} (o : Obj) (h : w.cell? a = some v) (hf : w.frozen? a = false) : (w.alloc o).cell? a = some v ∧ (w.alloc o).frozen? a = false := by
  have hB : Below w.heap.size w (w.alloc o) := (Below.refl _ _).alloc (Nat.le_refl _) _
  exact ⟨by rw [hB.cell (World.block_lt_of_cell? w _ h)]; exact h, by rw [hB.frozen (World.block_lt_of_cell? w _ h)]; exact hf⟩
theorem others_below {W W' : World} (h : Below W.heap.size W W') : KeepsOthers W W' := ⟨h.size, fun k o hk _ => by rw [h.block k (Array.getElem?_eq_some_iff.1 hk).1]; exact hk⟩
/-- The caller's word: its result's cell, and all that lay ahead of it; the heap has not shrunk. -/
def InvG (w : World) (M : Nat) (A : World) : Prop := A.cell? ⟨w.heap.size, 0, none⟩ = some (.bool false) ∧ A.frozen? ⟨w.heap.size, 0, none⟩ = false ∧ Below w.heap.size w A ∧ M ≤ A.heap.size
theorem InvG.below {w A A' : World} {N M : Nat} (h : InvG w M A) (hB : Below N A A') (hN : w.heap.size < N) : InvG w M A' :=
  ⟨by rw [hB.cell (p := ⟨w.heap.size, 0, none⟩) hN]; exact h.1, by rw [hB.frozen (p := ⟨w.heap.size, 0, none⟩) hN]; exact h.2.1, h.2.2.1.trans (hB.mono (Nat.le_of_lt hN)), Nat.le_trans h.2.2.2 hB.size⟩
theorem InvG.lt {w A : World} {M : Nat} (h : InvG w M A) : w.heap.size < A.heap.size := World.block_lt_of_cell? A _ h.1
theorem InvG.bears (w : World) (N M : Nat) (hN : w.heap.size + 1 ≤ N) (P : List S8 → Prop) : Bears N (w.heap.size + 1) (fun pre A => P pre ∧ InvG w M A) :=
  ⟨fun pre A o h => ⟨h.1, h.2.below (N := A.heap.size) ((Below.refl _ _).alloc (Nat.le_refl _) _) h.2.lt⟩,
   fun pre A k o hk hlt h => ⟨h.1, h.2.below (below_put o hk hlt) (by omega)⟩,
   fun pre A k h => ⟨h.1, h.2.below (N := A.heap.size) ((show Dr A (A.drewN k) from ⟨k, rfl⟩).below _) h.2.lt⟩,
   fun pre A v h => ⟨h.1, h.2.below (N := w.heap.size + 1) ((Below.refl _ _).setCell (p := ⟨w.heap.size + 1, 0, none⟩) (by simp) v) (by omega)⟩⟩
set_option maxRecDepth 100000 in
set_option maxHeartbeats 2000000 in
theorem good_any (l : S8) (w : World) (hl : l.length < 1000000) : Calls Tryz.prog 119 #[.string (mkS l)] w fun e w' => Gives (.bool (goodL l)) w e w' := by
  refine (callsIn_wide (n := 7)).1 ?_
  refine callsIn_of_wp_marks Tryz.func119 rfl trivial ?_ rfl
  simp only [Tryz.ntmps119, List.size_toArray, List.length_cons, List.length_nil, Nat.reduceAdd, Nat.reduceSub, Array.replicate_succ, Array.replicate_zero, List.push_toArray, List.append_toArray, List.nil_append, List.cons_append]
  by_cases h100 : 100 < l.length
  · have x1 : (100 : Int) < (l.length : Int) := by omega
    have x2 : decide ((100 : Int) < (l.length : Int)) = true := decide_eq_true x1
    gi_wp2
    have c0 := new_c w (.bool false) 4
    have hS := Lib.hid (show goodL l = false from by unfold goodL; rw [decide_eq_false (by omega)]; rfl)
    simp [bodyPostM, LeavesInM, LeavesIn, settle, results, Tryz.f119, go_sem, c0.1]
    exact ⟨by rw [hS.out], (Below.refl _ _).alloc (Nat.le_refl _) _⟩
  · have x1 : ¬ (100 : Int) < (l.length : Int) := by omega
    have x2 : decide ((100 : Int) < (l.length : Int)) = false := decide_eq_false x1
    gi_wp2_with (refine ⟨trivial, ?_⟩; gi_at_call 164; refine (callsIn_wide.2 (splitSeq_any l _)).mono ?_; rintro e w' ⟨rfl, rfl⟩)
    have HG := Lib.hid (show goodL l = allN l from by unfold goodL; rw [decide_eq_true (by omega), Bool.true_and])
    obtain ⟨N, hN⟩ : ∃ N, w.heap.size = N := ⟨_, rfl⟩
    obtain ⟨W1, hW1⟩ : ∃ W1, w.alloc (.cells #[.bool false] 4) = W1 := ⟨_, rfl⟩
    obtain ⟨W2, hW2⟩ : ∃ W2, W1.alloc (.cells #[.string (mkS l)] 9) = W2 := ⟨_, rfl⟩
    obtain ⟨W3, hW3⟩ : ∃ W3, W2.alloc (.cells #[.string ⟨#[47]⟩] 9) = W3 := ⟨_, rfl⟩
    obtain ⟨W4, hW4⟩ : ∃ W4, W3.alloc (.cells #[.int .i64 0] 3) = W4 := ⟨_, rfl⟩
    have s1 : W1.heap.size = N + 1 := by rw [← hW1]; simp [hN]
    have s2 : W2.heap.size = N + 2 := by rw [← hW2]; simp [s1]
    have s3 : W3.heap.size = N + 3 := by rw [← hW3]; simp [s2]
    have s4 : W4.heap.size = N + 4 := by rw [← hW4]; simp [s3]
    have c0 := new_c w (.bool false) 4
    have k1 := new_c W1 (.string (mkS l)) 9
    have k2 := new_c W2 (.string ⟨#[47]⟩) 9
    have k3 := new_c W3 (.int .i64 0) 3
    rw [hW1, hN] at c0
    rw [hW2, s1] at k1
    rw [hW3, s2] at k2
    rw [hW4, s3] at k3
    have c1 := kept_c (.cells #[.string (mkS l)] 9) c0.1 c0.2
    rw [hW2] at c1
    have c2 := kept_c (.cells #[.string ⟨#[47]⟩] 9) c1.1 c1.2
    rw [hW3] at c2
    have c3 := kept_c (.cells #[.int .i64 0] 3) c2.1 c2.2
    rw [hW4] at c3
    have k1b := kept_c (.cells #[.string ⟨#[47]⟩] 9) k1.1 k1.2
    rw [hW3] at k1b
    have k1c := kept_c (.cells #[.int .i64 0] 3) k1b.1 k1b.2
    rw [hW4] at k1c
    have k2b := kept_c (.cells #[.int .i64 0] 3) k2.1 k2.2
    rw [hW4] at k2b
    have hB0 : Below w.heap.size w W4 := by
      rw [← hW4, ← hW3, ← hW2, ← hW1]
      exact ((((Below.refl _ w).alloc (Nat.le_refl _) _).alloc (by simp) _).alloc (by simp; omega) _).alloc (by simp; omega) _
    have hbx : Boxes (N + 1 + 1) (N + 1) (N + 1 + 2) l W4 := ⟨k2b.1, k1c.1, k1c.2, k3.1⟩
    have inv0 : InvG w W4.heap.size W4 := by
      refine ⟨?_, ?_, hB0, Nat.le_refl _⟩
      · rw [hN]; exact c3.1
      · rw [hN]; exact c3.2
    clear c0 c1 c2 c3 k1 k1b k1c k2 k2b k3
    rw [hW1, hW2, hW3, hW4, hN]
    clear hW1 hW2 hW3 hW4 s1 s2 s3
    refine range_box (m := 7) (by decide) (gf := 219) (lb := #[.pointer (some ⟨N + 1 + 1, 0, none⟩), .pointer (some ⟨N + 1, 0, none⟩), .pointer (some ⟨N + 1 + 2, 0, none⟩)]) rfl (enters_of Tryz.func219 (by kernel_rfl) rfl)
      (encs := fun x : S8 => #[.string (mkS x)]) (fun _ => rfl) (b := N + 1) (by omega) (split_seq 6 (by decide) (N + 1 + 1) (N + 1) (N + 1 + 2) l W4 (by omega) (by omega) (by omega) (by omega) (by omega) hbx hl)
      (fun pre A => pre.all okN = true ∧ InvG w W4.heap.size A) (fun pre A => pre.all okN = false ∧ InvG w W4.heap.size A)
      (by have := InvG.bears w W4.heap.size W4.heap.size (by omega) (fun pre => pre.all okN = true); rw [hN] at this; exact this)
      (fun pre A k o hk hlt h => ⟨h.1, h.2.below (below_put o hk hlt) (by omega)⟩)
      ⟨rfl, inv0⟩
      (fun x => { tmps := #[.string (mkS l), undef, .pointer (some ⟨N, 0, none⟩), .string (mkS x), .string (mkS l), .int .i64 (l.length : Int), .bool false, .string (mkS l), .func (.func 219) #[] #[.pointer (some ⟨N + 1 + 1, 0, none⟩), .pointer (some ⟨N + 1, 0, none⟩), .pointer (some ⟨N + 1 + 2, 0, none⟩)], .string (mkS x), undef, undef, undef], defers := [] }) ?assign ?body ?done ?stop
    case assign =>
      intro L x A K hK
      gi_wp2
      exact hK
    case body =>
      rintro L pre x A ⟨hp, hinv⟩
      have hlt := hinv.lt
      have HP := Lib.hid hp
      have HINV := Lib.hid hinv
      have HC := Lib.hid (isName_any x A)
      clear hp
      generalize hgx : okN x = g at *
      have HGX := Lib.hid hgx
      clear hgx
      cases g with
      | true =>
        clear hinv
        gi_wp2_with (refine ⟨trivial, ?_⟩; gi_at_call 165; refine (CallsIn.inRound L (callsIn_wide.2 HC.out)).mono ?_; rintro e w2 ⟨rfl, hB2⟩; have HB2 := Lib.hid hB2; clear hB2)
        exact ⟨others_below HB2.out, HB2.out.mono HINV.out.2.2.2, ⟨by rw [List.all_append, HP.out]; simp [HGX.out], HINV.out.below HB2.out hlt⟩⟩
      | false =>
        gi_wp2_with (refine ⟨trivial, ?_⟩; gi_at_call 165; refine (CallsIn.inRound L (callsIn_wide.2 HC.out)).mono ?_; rintro e w2 ⟨rfl, hB2⟩; have hinv2 := hinv.below hB2 hlt; have hcr := hinv2.1; have hfr := hinv2.2.1; rw [hN] at hcr hfr; have HB2 := Lib.hid hB2; have HI2 := Lib.hid hinv2; clear hB2 hinv2 hinv)
        refine ⟨(others_below HB2.out).trans (KeepsOthers.setCell _ _ _), ⟨by rw [List.all_append, HP.out]; simp [HGX.out], ?_, ?_, ?_, ?_⟩⟩
        · rw [hN]; exact World.cell?_setCell_same' _ _ _ (by rw [hcr]; rfl)
        · rw [World.frozen?_setCell]; exact HI2.out.2.1
        · exact HI2.out.2.2.1.setCell (p := ⟨N, 0, none⟩) (by rw [hN]; simp) _
        · exact Nat.le_trans HI2.out.2.2.2 (KeepsOthers.setCell _ _ _).size
    case done =>
      rintro D A hD ⟨hp, hinv⟩ hK
      have hcr := hinv.1
      have hfr := hinv.2.1
      rw [hN] at hcr hfr
      gi_wp2
      have hK' := (KeepsOthers.setCell A ⟨N, 0, none⟩ (.bool true)).same D _ hK rfl
      refine ⟨by simp, .inl ⟨_, _, rfl, run_takeDeferred hK', ?_⟩⟩
      have hc5 := cell_kept (World.cell?_setCell_same' A ⟨N, 0, none⟩ (.bool true) (by rw [hcr]; rfl)) (grownBy_putObj' _ D (.deferred none)) (fun r e => by cases e; exact ⟨_, hK', rfl⟩)
      refine ⟨.bool true, ?_, by rw [HG.out]; exact congrArg _ (congrArg _ hp.symm), (hinv.2.2.1.setCell (p := ⟨N, 0, none⟩) (by rw [hN]; simp) _).trans (below_put _ (by omega) (Array.getElem?_eq_some_iff.1 hK').1)⟩
      simp [results, Tryz.f119, go_sem, hc5]
    case stop =>
      rintro D pre A hD hpre ⟨hp, hinv⟩ hK
      have hcr := hinv.1
      rw [hN] at hcr
      gi_wp2
      refine ⟨by simp, .inl ⟨_, _, rfl, run_takeDeferred hK, ?_⟩⟩
      have hc5 := cell_kept hcr (grownBy_putObj' _ D (.deferred none)) (fun r e => by cases e; exact ⟨_, hK, rfl⟩)
      refine ⟨.bool false, ?_, by rw [HG.out, all_pre hpre hp], hinv.2.2.1.trans (below_put _ (by omega) (Array.getElem?_eq_some_iff.1 hK).1)⟩
      simp [results, Tryz.f119, go_sem, hc5]
end Go.Proofs.YtkajeepbelfpiaaGreatDoor
/- TrimSuffix of what is an end; withMark, Temp, Side; Kind. -/
set_option maxRecDepth 100000
namespace Go.Proofs.YtkajeepbelfpiaaGreatDoor
open Go Go.RowKit
attribute [-go_sem] Sha.exec_store

set_option maxHeartbeats 2000000 in
theorem kind_any (l : S8) (w : World) (hl : l.length < 100000) : Calls Tryz.prog 130 #[.string (mkS l)] w fun e w' => Gives (.int .i64 (kindL l : Int)) w e w' := by
  have HB0 := Lib.hid (base_any l w hl)
  have HG := Lib.hid (fun u => good_any l u (by omega))
  have H1 := Lib.hid (show ∀ u : World, Calls Tryz.prog 176 #[.string (mkS (baseL l)), .string ⟨#[46, 116, 109, 112, 126]⟩] u (fun e w' => e = .returned (.bool (startsL (baseL l) tmpS)) ∧ u = w') from fun u => by
    have := hasPrefix_any (baseL l) tmpS u
    rw [← mkS_lit tmpS] at this
    exact this)
  have H2 := Lib.hid (show ∀ u : World, Calls Tryz.prog 176 #[.string (mkS (baseL l)), .string ⟨#[46, 112, 97, 114, 126]⟩] u (fun e w' => e = .returned (.bool (startsL (baseL l) parS)) ∧ u = w') from fun u => by
    have := hasPrefix_any (baseL l) parS u
    rw [← mkS_lit parS] at this
    exact this)
  obtain ⟨k, hk⟩ : ∃ k, kindL l = k := ⟨_, rfl⟩
  rw [hk]
  unfold kindL at hk
  have HK := Lib.hid hk.symm
  clear hk
  generalize startsL (baseL l) tmpS = b1 at *
  generalize startsL (baseL l) parS = b2 at *
  generalize baseL l = x at *
  generalize goodL l = g at *
  cases g with
  | false =>
    obtain rfl : k = 0 := by rw [HK.out]; rfl
    go_enter Tryz.func130, Tryz.ntmps130
    go_wp2_with fail
    refine HB0.out.mono ?_
    rintro e w1 ⟨rfl, hB⟩
    have HB := Lib.hid hB
    clear hB HB0
    go_wp2_with fail
    refine (HG.out _).mono ?_
    rintro e w2 ⟨rfl, hB⟩
    have HB2 := Lib.hid (HB.out.trans (hB.mono HB.out.size))
    clear hB HB
    go_wp2
    go_ret
    exact ⟨rfl, HB2.out⟩
  | true =>
    cases b1 with
    | true =>
      obtain rfl : k = 1 := by rw [HK.out]; rfl
      go_enter Tryz.func130, Tryz.ntmps130
      go_wp2_with fail
      refine HB0.out.mono ?_
      rintro e w1 ⟨rfl, hB⟩
      have HB := Lib.hid hB
      clear hB HB0
      go_wp2_with fail
      refine (HG.out _).mono ?_
      rintro e w2 ⟨rfl, hB⟩
      have HB2 := Lib.hid (HB.out.trans (hB.mono HB.out.size))
      clear hB HB
      go_wp2_with fail
      refine (H1.out _).mono ?_
      rintro e w' ⟨rfl, rfl⟩
      go_wp2
      go_ret
      exact ⟨rfl, HB2.out⟩
    | false =>
      obtain rfl : k = if b2 then 2 else 3 := by rw [HK.out]; rfl
      go_enter Tryz.func130, Tryz.ntmps130
      go_wp2_with fail
      refine HB0.out.mono ?_
      rintro e w1 ⟨rfl, hB⟩
      have HB := Lib.hid hB
      clear hB HB0
      go_wp2_with fail
      refine (HG.out _).mono ?_
      rintro e w2 ⟨rfl, hB⟩
      have HB2 := Lib.hid (HB.out.trans (hB.mono HB.out.size))
      clear hB HB
      go_wp2_with fail
      refine (H1.out _).mono ?_
      rintro e w' ⟨rfl, rfl⟩
      go_wp2_with fail
      refine (H2.out _).mono ?_
      rintro e w' ⟨rfl, rfl⟩
      cases b2 with
      | true =>
        go_wp2
        go_ret
        exact ⟨rfl, HB2.out⟩
      | false =>
        go_wp2
        go_ret
        exact ⟨rfl, HB2.out⟩
end Go.Proofs.YtkajeepbelfpiaaGreatDoor
/- Why there is no record; which records are good. -/
set_option maxRecDepth 100000
namespace Go.Proofs.YtkajeepbelfpiaaGreatDoor
open Go Go.RowKit

attribute [-go_sem] Sha.exec_store
/-- Where a stamp lies. -/
def StAt (w : World) (b o : Nat) (s t c : Int) : Prop := w.cell? ⟨b, o, none⟩ = some (.int .i64 s) ∧ w.cell? ⟨b, o + 1, none⟩ = some (.int .i64 t) ∧ w.cell? ⟨b, o + 2, none⟩ = some (.int .i64 c)
theorem StAt.of_below {w u : World} {b o : Nat} {s t c : Int} (h : StAt w b o s t c) (hB : Below w.heap.size w u) : StAt u b o s t c :=
  ⟨by rw [hB.cell (by exact World.block_lt_of_cell? w _ h.1)]; exact h.1, by rw [hB.cell (by exact World.block_lt_of_cell? w _ h.2.1)]; exact h.2.1, by rw [hB.cell (by exact World.block_lt_of_cell? w _ h.2.2)]; exact h.2.2⟩
theorem undS : (Tryz.prog.underlying 38).map (·.isRow) = some true := by kernel_rfl
theorem sizeS : (Tryz.prog.info? 38).map (·.size) = some 3 := by kernel_rfl
theorem ld_stamp {w : World} {b o : Nat} {s t c : Int} (h : StAt w b o s t c) : (ldT 38 (.pointer (some ⟨b, o, none⟩))).run Tryz.prog w = .ok (.value (stV s t c)) w := by
  have hr : w.rangeAt b o [.int .i64 s, .int .i64 t, .int .i64 c] := by
    intro j v hv
    match j, hv with
    | 0, hv => rw [Nat.add_zero, h.1]; exact hv
    | 1, hv => rw [h.2.1]; exact hv
    | 2, hv => rw [h.2.2]; exact hv
  obtain ⟨d, hu, hd⟩ : ∃ d, Tryz.prog.underlying 38 = some d ∧ d.isRow = true := by
    have hr := undS
    cases hq : Tryz.prog.underlying 38 with
    | none => rw [hq] at hr; cases hr
    | some d => rw [hq] at hr; exact ⟨d, rfl, by simpa using hr⟩
  have := run_loadAt_mid (P := Tryz.prog) w b o 38 _ _ hr hu hd (by rw [sizeS]; rfl)
  unfold stV
  simp only [ldT, Sem.run_bind, this, Result.andThen, Sem.run_pure]
theorem box_stamp (w : World) (s t c : Int) : (bxT 38 (stV s t c)).run Tryz.prog w = .ok (.value (.pointer (some ⟨w.heap.size, 0, none⟩))) (w.alloc (.cells #[.int .i64 s, .int .i64 t, .int .i64 c] 38)) := by
  unfold stV
  have hs := sizeS
  cases hq : Tryz.prog.info? 38 with
  | none => rw [hq] at hs; cases hs
  | some i =>
    rw [hq] at hs
    simp at hs
    simp [bxT, Instr.box, newVar, newRow, Value.cells]
theorem stamp_new (w : World) (s t c : Int) : StAt (w.alloc (.cells #[.int .i64 s, .int .i64 t, .int .i64 c] 38)) w.heap.size 0 s t c := by
  refine ⟨?_, ?_, ?_⟩ <;> go_simp
theorem exec_loadS (r : Operand → Value) (dst : Option Tmp) (p : Operand) (ty : TypeId) (pos : String) (after : Array Edge) (guard : Option (Nat × Bool)) :
    execOp r ⟨dst, .load 38 p, ty, pos, after, guard⟩ = ldT 38 (r p) := rfl
theorem exec_boxS (r : Operand → Value) (dst : Option Tmp) (x : Operand) (ty : TypeId) (pos : String) (after : Array Edge) (guard : Option (Nat × Bool)) :
    execOp r ⟨dst, .box 38 x, ty, pos, after, guard⟩ = bxT 38 (r x) := rfl
attribute [local go_sem ↓] exec_boxA exec_loadA exec_indexA exec_allocA exec_storeA exec_buildA exec_eqlA exec_neqA exec_boxV exec_loadV exec_indexV exec_allocV exec_storeV exec_buildV exec_eqlV exec_neqV
attribute [local go_sem] boxA indexA storeNewA buildA eqlA neqA boxV indexV storeNewV buildV eqlV neqV
attribute [local go_sem ↓] exec_loadS exec_boxS
attribute [local go_sem] box_stamp
/-- Why a record may not be: 7 the path, 1 stamp or version, 0 it may. -/
def rfE (p : S8) (s t c : Int) (f : Nat → Int) : Int := if kindL p = 3 then (if okS s t c && okV f then 0 else 1) else 7
set_option maxRecDepth 100000 in
set_option maxHeartbeats 2000000 in
theorem refusal_any (p : S8) (hp : p.length < 100000) (s t c : Int) (f : Nat → Int) (w : World) :
    Calls Tryz.prog 102 #[.string (mkS p), stV s t c, vcV f] w fun e w' => e = .returned (.int .i64 (rfE p s t c f)) ∧ Below w.heap.size w w' := by
  have HK := Lib.hid (fun u => kind_any p u hp)
  have HT := Lib.hid (fun u => stamp_any s t c u)
  have HV := Lib.hid (fun u => version_any f u)
  obtain ⟨X, hX⟩ : ∃ X, rfE p s t c f = X := ⟨_, rfl⟩
  have HX := Lib.hid (hX.symm.trans (show rfE p s t c f = if kindL p = 3 then (if okS s t c && okV f then 0 else 1) else 7 from rfl))
  rw [hX]
  clear hX
  obtain ⟨k, hk⟩ : ∃ k, kindL p = k := ⟨_, rfl⟩
  obtain ⟨g1, hg1⟩ : ∃ g, okS s t c = g := ⟨_, rfl⟩
  obtain ⟨g2, hg2⟩ : ∃ g, okV f = g := ⟨_, rfl⟩
  rw [hk] at HK HX
  rw [hg1] at HT HX
  rw [hg2] at HV HX
  clear hk hg1 hg2
  obtain ⟨W1, hW1⟩ : ∃ W1, w.alloc (.cells #[.int .i64 s, .int .i64 t, .int .i64 c] 38) = W1 := ⟨_, rfl⟩
  obtain ⟨W2, hW2⟩ : ∃ W2, W1.alloc (.cells (tab 16 (vf f)) 40) = W2 := ⟨_, rfl⟩
  have hS1 : StAt W1 w.heap.size 0 s t c := by rw [← hW1]; exact stamp_new w s t c
  have hB1 : Below w.heap.size w W1 := by rw [← hW1]; exact (Below.refl _ _).alloc (Nat.le_refl _) _
  have hB2 : Below W1.heap.size W1 W2 := by rw [← hW2]; exact (Below.refl _ _).alloc (Nat.le_refl _) _
  have hR : Row W2 W1.heap.size 40 16 (vf f) := by rw [← hW2]; exact Row.new W1 _ 16 (vf f)
  have HL1 := Lib.hid (fun (u : World) (hu : Below W2.heap.size W2 u) => ld_stamp ((hS1.of_below hB2).of_below hu))
  have HL2 := Lib.hid (fun (u : World) (hu : Below W2.heap.size W2 u) => loadVT vtV (VecAt.of_row (hR.of_below hu) (Nat.le_refl _)))
  have HB := Lib.hid (hB1.trans (hB2.mono hB1.size))
  clear hS1 hB1 hB2 hR
  go_enter Tryz.func102, Tryz.ntmps102
  go_wp2_with fail
  clear hW1 hW2
  refine (HK.out _).mono ?_
  rintro e u ⟨rfl, hB⟩
  by_cases h3 : k = 3
  · subst h3
    have l1 := HL1.out u hB
    have HBu := Lib.hid hB
    clear hB
    go_wp2_with fail
    clear l1
    refine (HT.out _).mono ?_
    rintro e u2 ⟨rfl, hB2⟩
    have hBB := HBu.out.trans (hB2.mono HBu.out.size)
    cases g1 with
    | false =>
      obtain rfl : X = 1 := by rw [HX.out]; rfl
      have HBB := Lib.hid (HB.out.trans (hBB.mono HB.out.size))
      clear hBB hB2
      go_wp2
      go_ret
      exact ⟨rfl, HBB.out⟩
    | true =>
      have l2 := HL2.out u2 hBB
      have HBB := Lib.hid hBB
      clear hBB hB2
      go_wp2_with fail
      clear l2
      refine (HV.out _).mono ?_
      rintro e u3 ⟨rfl, hB3⟩
      have hB4 := HBB.out.trans (hB3.mono HBB.out.size)
      have HBC := Lib.hid (HB.out.trans (hB4.mono HB.out.size))
      clear hB3 hB4
      cases g2 with
      | false =>
        obtain rfl : X = 1 := by rw [HX.out]; rfl
        go_wp2
        go_ret
        exact ⟨rfl, HBC.out⟩
      | true =>
        obtain rfl : X = 0 := by rw [HX.out]; rfl
        go_wp2
        go_ret
        exact ⟨rfl, HBC.out⟩
  · have hk1 : ¬ (k : Int) = 3 := by omega
    have hk2 : decide ((k : Int) = 3) = false := decide_eq_false hk1
    obtain rfl : X = 7 := by rw [HX.out, if_neg h3]
    have HBB := Lib.hid (HB.out.trans (hB.mono HB.out.size))
    clear hB h3
    go_wp2
    go_ret
    exact ⟨rfl, HBB.out⟩
end Go.Proofs.YtkajeepbelfpiaaGreatDoor
/- Records compared: the same ones. -/
set_option maxRecDepth 100000
namespace Go.Proofs.YtkajeepbelfpiaaGreatDoor
open Go Go.RowKit

attribute [-go_sem] Sha.exec_store
theorem DgAt.ldq {w : World} {r : Rc} {ds : List By} (h : DgAt w r ds) {c o : Nat} (hq : r.q = some ⟨c, o, none⟩) (i : Nat) (hi : i < ds.length) : (ldT 41 (.pointer (some ⟨c, o + i * 32, none⟩))).run Tryz.prog w = .ok (.value (digV (ds.getD i []))) w := by
  obtain ⟨c2, o2, e, -, hc, hl⟩ := h.at i hi
  rw [hq] at e
  injection e with e
  injection e with e1 e2
  subst e1 e2
  refine ld_dig (fun j hj => ⟨c, o + i * 32, rfl, ?_⟩) hl
  have := hc j (by omega)
  rw [Nat.mul_comm i 32]
  exact this
theorem veq_self10 (f : Nat → Int) : veq f f = true := veq_iff.2 fun _ _ => rfl
attribute [local go_sem ↓] exec_boxA exec_loadA exec_indexA exec_allocA exec_storeA exec_buildA exec_eqlA exec_neqA exec_boxV exec_loadV exec_indexV exec_allocV exec_storeV exec_buildV exec_eqlV exec_neqV
attribute [local go_sem] boxA indexA storeNewA buildA eqlA neqA boxV indexV storeNewV buildV eqlV neqV
attribute [local go_sem ↓] exec_loadS exec_boxS exec_boxP exec_boxM exec_load32 exec_build32 exec_eqlD exec_neqD
attribute [local go_sem] box_stamp boxP boxM bd32 eqlD neqD deq_self veq_self10

/-- Two records with the same fields, their digests wherever. -/
def Rc.mov (r : Rc) (q : Option Addr) (cap : Nat) : Rc := ⟨r.path, r.size, r.time, r.chg, r.ver, r.dead, r.whole, q, r.n, cap⟩
end Go.Proofs.YtkajeepbelfpiaaGreatDoor
/- Records built of their fields. -/
set_option maxRecDepth 100000
namespace Go.Proofs.YtkajeepbelfpiaaGreatDoor
open Go Go.RowKit

attribute [-go_sem] Sha.exec_store
theorem exec_buildM (r : Operand → Value) (dst : Option Tmp) (parts : Array (Nat × Operand)) (ty : TypeId) (pos : String) (after : Array Edge) (guard : Option (Nat × Bool)) :
    execOp r ⟨dst, .build 49 parts, ty, pos, after, guard⟩ = bdT 49 (parts.map fun x => (x.1, r x.2)) := rfl
theorem exec_buildP (r : Operand → Value) (dst : Option Tmp) (parts : Array (Nat × Operand)) (ty : TypeId) (pos : String) (after : Array Edge) (guard : Option (Nat × Bool)) :
    execOp r ⟨dst, .build 44 parts, ty, pos, after, guard⟩ = bdT 44 (parts.map fun x => (x.1, r x.2)) := rfl
theorem exec_buildS (r : Operand → Value) (dst : Option Tmp) (parts : Array (Nat × Operand)) (ty : TypeId) (pos : String) (after : Array Edge) (guard : Option (Nat × Bool)) :
    execOp r ⟨dst, .build 38 parts, ty, pos, after, guard⟩ = bdT 38 (parts.map fun x => (x.1, r x.2)) := rfl
set_option maxRecDepth 100000
set_option maxHeartbeats 2000000
theorem bdM0 (w : World) : (bdT 49 #[]).run Tryz.prog w = .ok (.value (rcV rc0)) w := by
  unfold rcV
  kernel_rfl
theorem bdP0 (w : World) : (bdT 44 #[]).run Tryz.prog w = .ok (.value (rcV rc0)) w := by
  unfold rcV
  kernel_rfl
theorem bdS3 (s t c : Int) (w : World) : (bdT 38 #[(0, .int .i64 s), (1, .int .i64 t), (2, .int .i64 c)]).run Tryz.prog w = .ok (.value (stV s t c)) w := by
  unfold stV
  kernel_rfl
theorem bdM8 (p : S8) (s t c : Int) (f : Nat → Int) (d : Bool) (wh : List (BitVec 8)) (q : Option Addr) (n cap : Nat) (w : World) :
    (bdT 49 #[(0, .string (mkS p)), (1, .int .i64 s), (2, .int .i64 t), (3, .int .i64 c), (4, vcV f), (5, .bool d), (6, digV wh), (7, .slice q n cap)]).run Tryz.prog w = .ok (.value (rcV ⟨p, s, t, c, f, d, wh, q, n, cap⟩)) w := by
  unfold rcV vcV digV
  kernel_rfl
theorem bdM5 (p : S8) (s t c : Int) (f : Nat → Int) (d : Bool) (wh : List (BitVec 8)) (q : Option Addr) (n cap : Nat) (w : World) :
    (bdT 49 #[(0, .string (mkS p)), (2, .int .i64 t), (3, .int .i64 c), (4, vcV f), (5, .bool d)]).run Tryz.prog w = .ok (.value (rcV ⟨p, 0, t, c, f, d, z32, none, 0, 0⟩)) w := by
  unfold rcV vcV
  kernel_rfl
theorem bdP6 (p : S8) (s t c : Int) (f : Nat → Int) (d : Bool) (wh : List (BitVec 8)) (q : Option Addr) (n cap : Nat) (w : World) :
    (bdT 44 #[(0, .string (mkS p)), (1, stV s t c), (2, vcV f), (3, .bool d), (4, digV wh), (5, .slice q n cap)]).run Tryz.prog w = .ok (.value (rcV ⟨p, s, t, c, f, d, wh, q, n, cap⟩)) w := by
  unfold rcV vcV digV stV
  kernel_rfl
theorem bdP5 (p : S8) (s t c : Int) (f : Nat → Int) (d : Bool) (wh : List (BitVec 8)) (q : Option Addr) (n cap : Nat) (w : World) :
    (bdT 44 #[(0, .string (mkS p)), (1, stV s t c), (2, vcV f), (4, digV wh), (5, .slice q n cap)]).run Tryz.prog w = .ok (.value (rcV ⟨p, s, t, c, f, false, wh, q, n, cap⟩)) w := by
  unfold rcV vcV digV stV
  kernel_rfl
theorem bdP4 (p : S8) (s t c : Int) (f : Nat → Int) (d : Bool) (wh : List (BitVec 8)) (q : Option Addr) (n cap : Nat) (w : World) :
    (bdT 44 #[(0, .string (mkS p)), (1, stV s t c), (2, vcV f), (3, .bool true)]).run Tryz.prog w = .ok (.value (rcV ⟨p, s, t, c, f, true, z32, none, 0, 0⟩)) w := by
  unfold rcV vcV stV
  kernel_rfl
end Go.Proofs.YtkajeepbelfpiaaGreatDoor
