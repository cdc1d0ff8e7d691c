/- VectorAnys. -/
import Derived.Test.YtjpennbmphhipaaTke9
import Derived.Test.YtjpennbmphhipaaBys9
set_option linter.unusedSimpArgs false
set_option linter.unusedVariables false
namespace Go.Proofs.Ytjpennbmphhipaa
open Go Go.RowKit

theorem rdP_stay2 (p : Option Addr) (N : Nat) (w w' : World) (a : Addr) (l : List (BitVec 8)) (h : RdP p N w a l) (hb : w'.heap[a.block]? = w.heap[a.block]?) (hp : 0 < l.length → ∀ c o, p = some ⟨c, o, none⟩ → c < N → w'.heap[c]? = w.heap[c]?) : RdP p N w' a l := by
  obtain ⟨b, q, cap, rfl, h1, h2, h4, h5, h6, h7, h8⟩ := h
  refine ⟨b, q, cap, rfl, h1, h2.same hb, fun j hj => ?_, h5, h6, h7, h8⟩
  obtain ⟨c, o, e, hx⟩ := h4 j hj
  obtain ⟨hc, o', e'⟩ := h8 (by omega) c o e
  exact ⟨c, o, e, by rw [World.cell?_of_block (w := w) (hp (by omega) c o' e' hc)]; exact hx⟩
theorem enters_a9 : ∀ args w, (callFunc 7 args).run Try.prog w = .ok (.enter 7 args) w := enters_of Try.func7 (by kernel_rfl) rfl
/-- What stands in the statement's three variables behind the reading. -/
def After9 (l : List (BitVec 8)) (bg : Nat) (c : Nat) (w' : World) : Prop :=
  match takeR l with
    | some (f, rest) => c = (if rest = [] then 0 else 6) ∧ Row w' bg 25 16 (vf f) ∧ w'.cell? ⟨bg + 1, 0, none⟩ = some (.int .i64 (rest.length : Int)) ∧ w'.cell? ⟨bg + 1 + 1, 0, none⟩ = some (.bool true)
    | none => c = 6 ∧ w'.cell? ⟨bg + 1 + 1, 0, none⟩ = some (.bool false)
theorem After9.below {l : List (BitVec 8)} {bg c N : Nat} {x y : World} (h : After9 l bg c x) (k : Below N x y) (hN : bg + 1 + 1 < N) : After9 l bg c y := by
  unfold After9 at h ⊢
  cases e : takeR l with
  | none => rw [e] at h; exact ⟨h.1, by rw [k.cell (by exact hN)]; exact h.2⟩
  | some z => rw [e] at h; exact ⟨h.1, h.2.1.below k (by omega), by rw [k.cell (by show bg + 1 < N; omega)]; exact h.2.2.1, by rw [k.cell (by exact hN)]; exact h.2.2.2⟩
theorem veq_self (f : Nat → Int) : veq f f = true := veq_iff.2 fun _ _ => rfl
theorem eqlVs (x y : Operand) (f : Nat → Int) (w : World) : (eqX .eql 25 x y (vcV f) (vcV f)).run Try.prog w = .ok (.value (.bool true)) w := by rw [eqlV, veq_self]
section
attribute [local go_sem ↓] exec_boxA exec_loadA exec_indexA exec_allocA exec_storeA exec_buildA exec_eqlA exec_neqA exec_boxV exec_loadV exec_indexV exec_allocV exec_storeV exec_buildV exec_eqlV exec_neqV
attribute [local go_sem] boxA indexA storeNewA buildA eqlA neqA boxV indexV storeNewV buildV eqlV neqV
theorem mkFn9 : ∀ (fn : Fn) (first cap : Array Value) (w : World), (Instr.makeFunc fn first cap).run Try.prog w = .ok (.func fn first cap) w := fun _ _ _ _ => rfl
set_option maxRecDepth 100000 in
set_option maxHeartbeats 4000000 in
/-- The function handed to Read. -/
theorem anys_in9 (p : Option Addr) (N : Nat) (w : World) (a : Addr) (l : List (BitVec 8)) (bg M : Nat) (g0 : Nat → Int) (x0 : Int) (hR : RdP p N w a l) (hG : Row w bg 25 16 (vf g0)) (hL : w.cell? ⟨bg + 1, 0, none⟩ = some (.int .i64 x0)) (hLf : w.frozen? ⟨bg + 1, 0, none⟩ = false)
    (hD : w.cell? ⟨bg + 1 + 1, 0, none⟩ = some (.bool false)) (hDf : w.frozen? ⟨bg + 1 + 1, 0, none⟩ = false) (hN : bg + 1 + 1 < N) (hM : M ≤ bg) (hpb : 0 < l.length → ∀ c o, p = some ⟨c, o, none⟩ → c < bg) :
    Calls Try.prog 7 (#[.pointer (some a)] ++ #[.pointer (some ⟨bg, 0, none⟩), .pointer (some ⟨bg + 1, 0, none⟩), .pointer (some ⟨bg + 1 + 1, 0, none⟩)]) w fun e w' => Loc N a.block w w' ∧ Below M w w' ∧ ((∃ rest, e = .returned (.tuple #[]) ∧ RdP p N w' a rest ∧ After9 l bg (if rest = [] then 0 else 6) w') ∨ (Thrown (ThrP a) 6 e w' ∧ After9 l bg 6 w')) := by
  have hlie := rdP_lie _ _ _ _ _ hR
  have hsz : M ≤ w.heap.size := by omega
  have HT := Lib.hid (take9_any p N w a l hR)
  rw [takeV_eq] at HT
  have HENC := Lib.hid (fun f rest (e : takeR l = some (f, rest)) => (takeR_enc e).1)
  show Calls Try.prog _ #[.pointer (some a), .pointer (some ⟨bg, 0, none⟩), .pointer (some ⟨bg + 1, 0, none⟩), .pointer (some ⟨bg + 1 + 1, 0, none⟩)] w _
  have HG := Lib.hid hG
  have HL := Lib.hid (And.intro hL hLf)
  have HD := Lib.hid (And.intro hD hDf)
  have hLb := World.block_lt_of_cell? w _ hL
  have hDb := World.block_lt_of_cell? w _ hD
  have hGb := hG.lt
  clear hR hG hL hLf hD hDf
  cases hT : takeR l with
  | none =>
    rw [hT] at HT
    have HA := Lib.hid (fun (c : Nat) (w' : World) => show After9 l bg c w' = (c = 6 ∧ w'.cell? ⟨bg + 1 + 1, 0, none⟩ = some (.bool false)) from by unfold After9; rw [hT])
    clear hT HENC
    go_enter Try.func7, Try.ntmps7
    go_wp2_with fail
    refine HT.out.mono ?_
    rintro e w2 ⟨hK, v, hv, rfl⟩
    refine ⟨rfl, Loc.ofKp hK, hK.below (by omega) hsz, .inr ⟨⟨v, hv, rfl⟩, ?_⟩⟩
    rw [HA.out]
    exact ⟨rfl, by rw [hK.cell (by exact hDb) (by show bg + 1 + 1 ≠ _; omega)]; exact HD.out.1⟩
  | some x =>
    obtain ⟨f, rest⟩ := x
    rw [hT] at HT
    have HA := Lib.hid (fun (c : Nat) (w' : World) => show After9 l bg c w' = (c = (if rest = [] then 0 else 6) ∧ Row w' bg 25 16 (vf f) ∧ w'.cell? ⟨bg + 1, 0, none⟩ = some (.int .i64 (rest.length : Int)) ∧ w'.cell? ⟨bg + 1 + 1, 0, none⟩ = some (.bool true)) from by unfold After9; rw [hT])
    have HPB := Lib.hid (fun (h : 0 < rest.length) => hpb (by rw [HENC.out f rest hT, List.length_append]; omega))
    clear hT HENC hpb
    go_enter Try.func7, Try.ntmps7
    go_wp2_with fail
    refine HT.out.mono ?_
    rintro e w2 ⟨hK, rfl, hR2⟩
    obtain ⟨w5, hs5, hR5, hK5⟩ := storeVT vtV (HG.out.of_kp hK (show bg ≠ a.block by omega)) f
    have hw2 : w.heap.size ≤ w2.heap.size := hK.size
    have HRD := Lib.hid (rdP_stay2 _ _ _ w5 _ _ hR2 (hK5.block _ (by omega) (by omega)) (fun h c o e _ => hK5.block c (by have := HPB.out h c o e; omega) (by have := HPB.out h c o e; omega)))
    have c1 : w5.cell? ⟨bg + 1, 0, none⟩ = some (.int .i64 x0) := by rw [hK5.cell (by show bg + 1 < _; exact Nat.lt_of_lt_of_le hLb hw2) (by show bg + 1 ≠ bg; omega), hK.cell (by exact hLb) (by show bg + 1 ≠ _; omega)]; exact HL.out.1
    have c2 : w5.cell? ⟨bg + 1 + 1, 0, none⟩ = some (.bool false) := by rw [hK5.cell (by show bg + 1 + 1 < _; exact Nat.lt_of_lt_of_le hDb hw2) (by show bg + 1 + 1 ≠ bg; omega), hK.cell (by exact hDb) (by show bg + 1 + 1 ≠ _; omega)]; exact HD.out.1
    have d1 : w5.frozen? ⟨bg + 1, 0, none⟩ = false := by rw [hK5.frozen (by show bg + 1 < _; exact Nat.lt_of_lt_of_le hLb hw2) (by show bg + 1 ≠ bg; omega), hK.frozen (by exact hLb) (by show bg + 1 ≠ _; omega)]; exact HL.out.2
    have d2 : w5.frozen? ⟨bg + 1 + 1, 0, none⟩ = false := by rw [hK5.frozen (by show bg + 1 + 1 < _; exact Nat.lt_of_lt_of_le hDb hw2) (by show bg + 1 + 1 ≠ bg; omega), hK.frozen (by exact hDb) (by show bg + 1 + 1 ≠ _; omega)]; exact HD.out.2
    have HC := Lib.hid (And.intro c1 (And.intro c2 (And.intro d1 d2)))
    have HLF := Lib.hid (rdP_left p N w5 a rest HRD.out)
    have HR5 := Lib.hid hR5
    have HLO := Lib.hid (show Loc N a.block w w5 from ⟨Nat.le_trans hw2 hK5.size, fun k h1 h2 h3 => (hK5.block k (by omega) (by omega)).trans (hK.block k h2 h3)⟩)
    have HBM := Lib.hid ((hK.below (by omega) hsz).trans (hK5.below hM (Nat.le_trans hsz hw2)))
    clear hK hR2 hR5 hK5 c1 c2 d1 d2
    go_wp2_with fail
    refine HLF.out.mono ?_
    rintro e w6 ⟨rfl, hDr⟩
    have e1 : w6.cell? ⟨bg + 1, 0, none⟩ = some (.int .i64 x0) := by rw [hDr.cell]; exact HC.out.1
    have e2 : w6.cell? ⟨bg + 1 + 1, 0, none⟩ = some (.bool false) := by rw [hDr.cell]; exact HC.out.2.1
    have e3 : w6.frozen? ⟨bg + 1, 0, none⟩ = false := by rw [hDr.frozen]; exact HC.out.2.2.1
    have e4 : w6.frozen? ⟨bg + 1 + 1, 0, none⟩ = false := by rw [hDr.frozen]; exact HC.out.2.2.2
    have e5 : (w6.setCell ⟨bg + 1, 0, none⟩ (.int .i64 (rest.length : Int))).cell? ⟨bg + 1 + 1, 0, none⟩ = some (.bool false) := by rw [World.cell?_setCell_far _ _ _ _ (show bg + 1 ≠ bg + 1 + 1 by omega)]; exact e2
    have HE := Lib.hid (And.intro e1 e5)
    have HDR := Lib.hid hDr
    clear hDr e2
    go_wp2
    go_end0
    have h56 : ∀ k : Nat, k ≠ bg + 1 → k ≠ bg + 1 + 1 → ((w6.setCell ⟨bg + 1, 0, none⟩ (.int .i64 (rest.length : Int))).setCell ⟨bg + 1 + 1, 0, none⟩ (.bool true)).heap[k]? = w5.heap[k]? := fun k h1 h2 => by
      rw [Below.heap_setCell _ _ _ _ (show k ≠ bg + 1 + 1 from h2), Below.heap_setCell _ _ _ _ (show k ≠ bg + 1 from h1), HDR.out.heap]
    refine ⟨HLO.out.trans ⟨by simp [HDR.out.heap], fun k h1 h2 h3 => h56 k (by omega) (by omega)⟩, HBM.out.trans (((HDR.out.below M).setCell (show M ≤ (⟨bg + 1, 0, none⟩ : Addr).block by show M ≤ bg + 1; omega) _).setCell (show M ≤ (⟨bg + 1 + 1, 0, none⟩ : Addr).block by show M ≤ bg + 1 + 1; omega) _), .inl ⟨rest, rfl, ?_, ?_⟩⟩
    · exact rdP_stay2 _ _ _ _ _ _ HRD.out (h56 _ (by omega) (by omega)) (fun h c o e _ => h56 c (by have := HPB.out h c o e; omega) (by have := HPB.out h c o e; omega))
    · rw [HA.out]
      refine ⟨rfl, HR5.out.of_block (h56 bg (by omega) (by omega)), ?_, ?_⟩
      · rw [World.cell?_setCell_far _ _ _ _ (show bg + 1 + 1 ≠ bg + 1 by omega)]
        exact World.cell?_setCell_same _ _ _ HE.out.1
      · exact World.cell?_setCell_same _ _ _ HE.out.2
end
section
attribute [local go_sem ↓] exec_boxA exec_loadA exec_indexA exec_allocA exec_storeA exec_buildA exec_eqlA exec_neqA exec_boxV exec_loadV exec_indexV exec_allocV exec_storeV exec_buildV exec_eqlV exec_neqV
attribute [local go_sem] boxA indexA storeNewA buildA eqlA neqA boxV indexV storeNewV buildV eqlVs neqV
attribute [local go_sem] mkFn9
attribute [local go_sem ↓] exec_slice
set_option maxRecDepth 100000 in
set_option maxHeartbeats 8000000 in
theorem anys9_any (l : List (BitVec 8)) (p : Option Addr) (n cap : Nat) (w : World) (hl : l.length = n) (hs : Sl w p l) (hpn : p = none → cap = 0) (hnc : n ≤ cap) : Calls Try.prog 3 #[.slice p n cap] w fun e w' => e = .returned (.bool true) ∧ Below w.heap.size w w' := by
  have HAW := Lib.hid awake9
  by_cases hbig : 200 < n
  · have z : decide ((200 : Int) < (n : Int)) = true := decide_eq_true (by omega)
    clear hl hs hpn hnc
    go_enter Try.func3, Try.ntmps3
    go_wp2_with fail
    refine (HAW.out _).mono ?_
    rintro e w1 ⟨rfl, hB1⟩
    have HB1 := Lib.hid hB1
    clear hB1
    go_wp2_with fail
    refine (HAW.out _).mono ?_
    rintro e w2 ⟨rfl, hB2⟩
    have HB2 := Lib.hid (HB1.out.trans (hB2.mono HB1.out.size))
    clear hB2
    go_wp2
    go_ret
    exact ⟨rfl, HB2.out⟩
  · have z : decide ((200 : Int) < (n : Int)) = false := decide_eq_false (by omega)
    have HSL := Lib.hid hs
    have HLN := Lib.hid hl
    have HPN := Lib.hid hpn
    have HPB := Lib.hid (hs.blk6)
    clear hs hl hpn
    go_enter Try.func3, Try.ntmps3
    go_wp2_with fail
    refine (HAW.out _).mono ?_
    rintro e w1 ⟨rfl, hB1⟩
    have HB1 := Lib.hid hB1
    have hw1 : w.heap.size ≤ w1.heap.size := hB1.size
    have HU0 : Hid (Row (((w1.alloc (.cells (tab 16 (vf fun _ => 0)) 25)).alloc (.cells #[.int .i64 (-1)] 3)).alloc (.cells #[.bool false] 4)) w1.heap.size 25 16 (vf fun _ => 0) ∧ ((((w1.alloc (.cells (tab 16 (vf fun _ => 0)) 25)).alloc (.cells #[.int .i64 (-1)] 3)).alloc (.cells #[.bool false] 4)).cell? ⟨w1.heap.size + 1, 0, none⟩ = some (.int .i64 (-1)) ∧ (((w1.alloc (.cells (tab 16 (vf fun _ => 0)) 25)).alloc (.cells #[.int .i64 (-1)] 3)).alloc (.cells #[.bool false] 4)).frozen? ⟨w1.heap.size + 1, 0, none⟩ = false) ∧ ((((w1.alloc (.cells (tab 16 (vf fun _ => 0)) 25)).alloc (.cells #[.int .i64 (-1)] 3)).alloc (.cells #[.bool false] 4)).cell? ⟨w1.heap.size + 1 + 1, 0, none⟩ = some (.bool false) ∧ (((w1.alloc (.cells (tab 16 (vf fun _ => 0)) 25)).alloc (.cells #[.int .i64 (-1)] 3)).alloc (.cells #[.bool false] 4)).frozen? ⟨w1.heap.size + 1 + 1, 0, none⟩ = false) ∧ Below w1.heap.size w1 (((w1.alloc (.cells (tab 16 (vf fun _ => 0)) 25)).alloc (.cells #[.int .i64 (-1)] 3)).alloc (.cells #[.bool false] 4)) ∧ (((w1.alloc (.cells (tab 16 (vf fun _ => 0)) 25)).alloc (.cells #[.int .i64 (-1)] 3)).alloc (.cells #[.bool false] 4)).heap.size = w1.heap.size + 1 + 1 + 1) := Lib.hid (by
      have b1 := (Below.refl w1.heap.size w1).alloc (Nat.le_refl _) (.cells (tab 16 (vf fun _ => 0)) 25)
      refine ⟨(((Row.new w1 25 16 (vf fun _ => 0)).of_below ((Below.refl _ _).alloc (Nat.le_refl _) _)).of_below ((Below.refl _ _).alloc (Nat.le_refl _) _)), ⟨by go_simp, by go_simp⟩, ⟨by go_simp, by go_simp⟩, (b1.alloc (by simp [World.size_alloc]) _).alloc (by simp [World.size_alloc]; omega) _, by simp [World.size_alloc]⟩)
    clear hB1
    have HBW := Lib.hid (HB1.out.trans (HU0.out.2.2.2.1.mono hw1))
    have HSU := Lib.hid (HSL.out.of_below (HBW.out.mono (Nat.le_refl _)))
    have HRD := Lib.hid (read_any l p n cap 7 #[.pointer (some ⟨w1.heap.size, 0, none⟩), .pointer (some ⟨w1.heap.size + 1, 0, none⟩), .pointer (some ⟨w1.heap.size + 1 + 1, 0, none⟩)] (((w1.alloc (.cells (tab 16 (vf fun _ => 0)) 25)).alloc (.cells #[.int .i64 (-1)] 3)).alloc (.cells #[.bool false] 4)) (fun c w' => After9 l w1.heap.size c w' ∧ Below w1.heap.size (((w1.alloc (.cells (tab 16 (vf fun _ => 0)) 25)).alloc (.cells #[.int .i64 (-1)] 3)).alloc (.cells #[.bool false] 4)) w') HLN.out HSU.out HPN.out hnc (by omega) enters_a9
      (fun c x y h k => ⟨h.1.below k (by rw [HU0.out.2.2.2.2]; omega), h.2.trans (k.mono HU0.out.2.2.2.1.size)⟩)
      (fun a u hb hr => (anys_in9 p _ u a l w1.heap.size w1.heap.size (fun _ => 0) (-1) hr (HU0.out.1.below hb (by rw [HU0.out.2.2.2.2]; omega))
        (by rw [hb.cell (by show w1.heap.size + 1 < _; rw [HU0.out.2.2.2.2]; omega)]; exact HU0.out.2.1.1) (by rw [hb.frozen (by show w1.heap.size + 1 < _; rw [HU0.out.2.2.2.2]; omega)]; exact HU0.out.2.1.2)
        (by rw [hb.cell (by show w1.heap.size + 1 + 1 < _; rw [HU0.out.2.2.2.2]; omega)]; exact HU0.out.2.2.1.1) (by rw [hb.frozen (by show w1.heap.size + 1 + 1 < _; rw [HU0.out.2.2.2.2]; omega)]; exact HU0.out.2.2.1.2)
        (by rw [HU0.out.2.2.2.2]; omega) (Nat.le_refl _) (fun h c o e => Nat.lt_of_lt_of_le (HPB.out h c o e) hw1)).mono fun e w' ⟨h1, h2, h3⟩ => ⟨h1, by
          have hb2 := (hb.mono HU0.out.2.2.2.1.size).trans h2
          rcases h3 with ⟨rest, he, hr2, hA⟩ | ⟨ht, hA⟩
          · exact .inl ⟨rest, he, hr2, hA, hb2⟩
          · exact .inr ⟨6, ht, hA, hb2⟩⟩))
    go_wp2_with fail
    generalize (((w1.alloc (.cells (tab 16 (vf fun _ => 0)) 25)).alloc (.cells #[.int .i64 (-1)] 3)).alloc (.cells #[.bool false] 4)) = U at *
    generalize hH : w1.heap.size = H at *
    have hH2 : w.heap.size ≤ H := hw1
    clear hH
    refine HRD.out.mono ?_
    rintro e w2 ⟨code, rfl, hA, hB2⟩
    have HB2 := Lib.hid (HBW.out.trans (hB2.mono hw1))
    have hz2 : w.heap.size ≤ w2.heap.size := HB2.out.size
    have HTK := Lib.hid (refTake9_any l p n cap w2 HLN.out (HSL.out.of_below HB2.out) hnc (by omega))
    have HENC := Lib.hid (fun f rest (e : takeR l = some (f, rest)) => takeR_enc e)
    unfold After9 at hA
    cases hT : takeR l with
    | none =>
      rw [hT] at HTK hA
      obtain ⟨rfl, hd⟩ := hA
      have HD := Lib.hid hd
      clear hT HENC hd hB2
      go_wp2_with fail
      refine HTK.out.mono ?_
      rintro e w3 ⟨hB3, rfl⟩
      have HB4 := Lib.hid (HB2.out.trans ((hB3.mono hz2).alloc (by exact Nat.le_trans hz2 hB3.size) (.cells (tab 16 (vf fun _ => 0)) 24)))
      have x1 : (w3.alloc (.cells (tab 16 (vf fun _ => 0)) 24)).cell? ⟨H + 1 + 1, 0, none⟩ = some (.bool false) := by
        rw [((Below.refl w3.heap.size w3).alloc (Nat.le_refl _) _).cell (by exact Nat.lt_of_lt_of_le (World.block_lt_of_cell? w2 _ HD.out) hB3.size), hB3.cell (by exact World.block_lt_of_cell? w2 _ HD.out)]; exact HD.out
      clear hB3
      go_wp2
      go_ret
      exact ⟨rfl, HB4.out⟩
    | some y =>
      obtain ⟨f, rest⟩ := y
      rw [hT] at HTK hA
      obtain ⟨hcode, hG, hL, hD⟩ := hA
      have hcode' : code = 0 ∨ code = 6 := by rw [hcode]; split; exact .inl rfl; exact .inr rfl
      obtain ⟨hen, hgd⟩ := HENC.out f rest hT
      have HG := Lib.hid hG
      have HL := Lib.hid hL
      have HD := Lib.hid hD
      have HEN := Lib.hid hen
      have HBY := Lib.hid (fun u => refBytes9_any f hgd u)
      have hvs := veq_self f
      clear hT HENC hG hL hD hen hgd hB2 hcode
      go_wp2_with fail
      refine HTK.out.mono ?_
      rintro e w3 ⟨hB3, k, hk, hrest, rfl⟩
      have hlk : rest.length = n - k := by rw [hrest, List.length_drop, HLN.out]
      have hkn : k ≤ n := by rw [← HLN.out]; exact hk
      obtain ⟨R, hR⟩ : ∃ R, rest.length = R := ⟨_, rfl⟩
      have HTKE := Lib.hid (show encV f = l.take k from by
        have h1 := HEN.out
        rw [hrest] at h1
        have h2 : encV f ++ l.drop k = l.take k ++ l.drop k := by rw [List.take_append_drop]; exact h1.symm
        exact List.append_cancel_right h2)
      have hkl : (encV f).length = k := by rw [HTKE.out, List.length_take, HLN.out]; omega
      have HLK := Lib.hid hkl
      rw [hR] at HL
      have q1 : IntKind.i64.wrap ((n : Int) - (k : Int)) = (R : Int) := by rw [IntKind.wrap_i64]; omega
      have hsl := fun u => sl_hi p n cap k u (by omega)
      have HNW := Lib.hid (Row.new w3 24 16 (vf f))
      have HB3 := Lib.hid hB3
      have HBA := Lib.hid (show Below w3.heap.size w3 (w3.alloc (.cells (tab 16 (vf f)) 24)) from (Below.refl _ _).alloc (Nat.le_refl _) _)
      have HBE := Lib.hid (HB2.out.trans ((hB3.mono hz2).trans (HBA.out.mono (Nat.le_trans hz2 hB3.size))))
      have HSS := Lib.hid (fun (u : World) (hu : Below (w3.alloc (.cells (tab 16 (vf f)) 24)).heap.size (w3.alloc (.cells (tab 16 (vf f)) 24)) u) => (by
        have hb2 : Below w2.heap.size w2 u := HB3.out.trans ((HBA.out.trans (hu.mono HBA.out.size)).mono HB3.out.size)
        refine ⟨loadVT vtV (VecAt.of_row (HG.out.of_below hb2) (Nat.le_refl _)), loadVT vtA (VecAt.of_row (HNW.out.of_below hu) (Nat.le_refl _)), by rw [hb2.cell (by exact World.block_lt_of_cell? w2 _ HL.out)]; exact HL.out, by rw [hb2.cell (by exact World.block_lt_of_cell? w2 _ HD.out)]; exact HD.out,
          conv_str u p (encV f) k cap (by rw [HTKE.out]; exact (HSL.out.of_below (HB2.out.trans (hb2.mono hz2))).take k) HLK.out HPN.out, hu⟩ : (ldT 25 (.pointer (some ⟨H, 0, none⟩))).run Try.prog u = .ok (.value (vcV f)) u ∧ (ldT 24 (.pointer (some ⟨w3.heap.size, 0, none⟩))).run Try.prog u = .ok (.value (vcV f)) u ∧ u.cell? ⟨H + 1, 0, none⟩ = some (.int .i64 (R : Int)) ∧ u.cell? ⟨H + 1 + 1, 0, none⟩ = some (.bool true) ∧ (convert 22 9 (.slice p k cap)).run Try.prog u = .ok (.string (strOf (encV f))) u ∧ Below (w3.alloc (.cells (tab 16 (vf f)) 24)).heap.size (w3.alloc (.cells (tab 16 (vf f)) 24)) u))
      clear hrest hlk hkl hR hk hB3
      go_wp2
      generalize w3.alloc (.cells (tab 16 (vf f)) 24) = w6 at *
      generalize w3.heap.size = HV at *
      refine wp_region_noPanic ?_
      refine wp_region_held_drew (S := (fun u : World => (ldT 25 (.pointer (some ⟨H, 0, none⟩))).run Try.prog u = .ok (.value (vcV f)) u ∧ (ldT 24 (.pointer (some ⟨HV, 0, none⟩))).run Try.prog u = .ok (.value (vcV f)) u ∧ u.cell? ⟨H + 1, 0, none⟩ = some (.int .i64 (R : Int)) ∧ u.cell? ⟨H + 1 + 1, 0, none⟩ = some (.bool true) ∧ (convert 22 9 (.slice p k cap)).run Try.prog u = .ok (.string (strOf (encV f))) u ∧ Below w6.heap.size w6 u)) (by kernel_rfl) (HSS.out _ (Below.refl _ _).drew) (fun hHeld => ?_)
      refine wpAnyH_take (i := 0) (v := ?_) (by simp only [List.getElem?_toArray, List.getElem?_cons_succ, List.getElem?_cons_zero]; exact rfl) (by kernel_rfl) (by kernel_rfl) (by kernel_rfl) (fun _ _ _ h => h) (Or.inl ⟨by rfl, ?_⟩) (by assumption) ?_
      rotate_left 1
      · (intro w hSw; (try dsimp only at hSw); go_simp; try with_reducible rfl)
      try simp only [Act.put, List.setIfInBounds_toArray, List.set_cons_zero, List.set_cons_succ]
      refine wpAnyH_take (i := 1) (v := ?_) (by simp only [List.getElem?_toArray, List.getElem?_cons_succ, List.getElem?_cons_zero]; exact rfl) (by kernel_rfl) (by kernel_rfl) (by kernel_rfl) (fun _ _ _ h => h) (Or.inl ⟨by rfl, ?_⟩) (by assumption) ?_
      rotate_left 1
      · (intro w hSw; (try dsimp only at hSw); go_simp; try with_reducible rfl)
      try simp only [Act.put, List.setIfInBounds_toArray, List.set_cons_zero, List.set_cons_succ]
      refine wpAnyH_take (i := 2) (v := ?_) (by simp only [List.getElem?_toArray, List.getElem?_cons_succ, List.getElem?_cons_zero]; exact rfl) (by kernel_rfl) (by kernel_rfl) (by kernel_rfl) (fun _ _ _ h => h) (Or.inl ⟨by rfl, ?_⟩) (by assumption) ?_
      rotate_left 1
      · (intro w hSw; (try dsimp only at hSw); go_simp; try with_reducible rfl)
      try simp only [Act.put, List.setIfInBounds_toArray, List.set_cons_zero, List.set_cons_succ]
      refine wpAnyH_take (i := 3) (v := ?_) (by simp only [List.getElem?_toArray, List.getElem?_cons_succ, List.getElem?_cons_zero]; exact rfl) (by kernel_rfl) (by kernel_rfl) (by kernel_rfl) (fun _ _ _ h => h) (Or.inl ⟨by rfl, ?_⟩) (by assumption) ?_
      rotate_left 1
      · (intro w hSw; (try dsimp only at hSw); go_simp; try with_reducible rfl)
      try simp only [Act.put, List.setIfInBounds_toArray, List.set_cons_zero, List.set_cons_succ]
      refine wpAnyH_take (i := 4) (v := ?_) (by simp only [List.getElem?_toArray, List.getElem?_cons_succ, List.getElem?_cons_zero]; exact rfl) (by kernel_rfl) (by kernel_rfl) (by kernel_rfl) (fun _ _ _ h => h) (Or.inl ⟨by rfl, ?_⟩) (by assumption) ?_
      rotate_left 1
      · (intro w hSw; (try dsimp only at hSw); go_simp; try with_reducible rfl)
      try simp only [Act.put, List.setIfInBounds_toArray, List.set_cons_zero, List.set_cons_succ]
      refine wpAnyH_take (i := 5) (v := ?_) (by simp only [List.getElem?_toArray, List.getElem?_cons_succ, List.getElem?_cons_zero]; exact rfl) (by kernel_rfl) (by kernel_rfl) (by kernel_rfl) (fun _ _ _ h => h) (Or.inl ⟨by rfl, ?_⟩) (by assumption) ?_
      rotate_left 1
      · (intro w hSw; (try dsimp only at hSw); go_simp; try with_reducible rfl)
      try simp only [Act.put, List.setIfInBounds_toArray, List.set_cons_zero, List.set_cons_succ]
      refine wpAnyH_take (i := 6) (v := ?_) (by simp only [List.getElem?_toArray, List.getElem?_cons_succ, List.getElem?_cons_zero]; exact rfl) (by kernel_rfl) (by kernel_rfl) (by kernel_rfl) (fun _ _ _ h => h) (Or.inl ⟨by rfl, ?_⟩) (by assumption) ?_
      rotate_left 1
      · (intro w hSw; (try dsimp only at hSw); go_simp; try with_reducible rfl)
      try simp only [Act.put, List.setIfInBounds_toArray, List.set_cons_zero, List.set_cons_succ]
      refine wpAnyH_take (i := 7) (v := ?_) (by simp only [List.getElem?_toArray, List.getElem?_cons_succ, List.getElem?_cons_zero]; exact rfl) (by kernel_rfl) (by kernel_rfl) (by kernel_rfl) (fun _ _ _ h => h) (Or.inl ⟨by rfl, ?_⟩) (by assumption) ?_
      rotate_left 1
      · (intro w hSw; (try dsimp only at hSw); go_simp; try with_reducible rfl)
      try simp only [Act.put, List.setIfInBounds_toArray, List.set_cons_zero, List.set_cons_succ]
      refine wpAnyH_take (i := 8) (v := ?_) (by simp only [List.getElem?_toArray, List.getElem?_cons_succ, List.getElem?_cons_zero]; exact rfl) (by kernel_rfl) (by kernel_rfl) (by kernel_rfl) (fun _ _ _ h => h) (Or.inl ⟨by rfl, ?_⟩) (by assumption) ?_
      rotate_left 1
      · (intro w hSw; (try dsimp only at hSw); go_simp; try with_reducible rfl)
      try simp only [Act.put, List.setIfInBounds_toArray, List.set_cons_zero, List.set_cons_succ]
      refine wpAnyH_take (i := 9) (v := ?_) (by simp only [List.getElem?_toArray, List.getElem?_cons_succ, List.getElem?_cons_zero]; exact rfl) (by kernel_rfl) (by kernel_rfl) (by kernel_rfl) (fun _ _ _ h => h) (Or.inl ⟨by rfl, ?_⟩) (by assumption) ?_
      rotate_left 1
      · (intro w hSw; (try dsimp only at hSw); go_simp; try with_reducible rfl)
      try simp only [Act.put, List.setIfInBounds_toArray, List.set_cons_zero, List.set_cons_succ]
      refine wpAnyH_take (i := 10) (v := ?_) (by simp only [List.getElem?_toArray, List.getElem?_cons_succ, List.getElem?_cons_zero]; exact rfl) (by kernel_rfl) (by kernel_rfl) (by kernel_rfl) (fun _ _ _ h => h) (Or.inl ⟨by rfl, ?_⟩) (by assumption) ?_
      rotate_left 1
      · (intro w hSw; (try dsimp only at hSw); go_simp; try with_reducible rfl)
      try simp only [Act.put, List.setIfInBounds_toArray, List.set_cons_zero, List.set_cons_succ]
      refine wpAnyH_take (i := 11) (v := ?_) (by simp only [List.getElem?_toArray, List.getElem?_cons_succ, List.getElem?_cons_zero]; exact rfl) (by kernel_rfl) (by kernel_rfl) (by kernel_rfl) (fun _ _ _ h => h) (Or.inl ⟨by rfl, ?_⟩) (by assumption) ?_
      rotate_left 1
      · (intro w hSw; (try dsimp only at hSw); go_simp; try with_reducible rfl)
      try simp only [Act.put, List.setIfInBounds_toArray, List.set_cons_zero, List.set_cons_succ]
      refine wpAnyH_take (i := 12) (v := ?_) (by simp only [List.getElem?_toArray, List.getElem?_cons_succ, List.getElem?_cons_zero]; exact rfl) (by kernel_rfl) (by kernel_rfl) (by kernel_rfl) (fun _ _ _ h => h) (Or.inl ⟨by rfl, ?_⟩) (by assumption) ?_
      rotate_left 1
      · (intro w hSw; (try dsimp only at hSw); go_simp; try with_reducible rfl)
      try simp only [Act.put, List.setIfInBounds_toArray, List.set_cons_zero, List.set_cons_succ]
      refine wpAnyH_take (i := 13) (v := ?_) (by simp only [List.getElem?_toArray, List.getElem?_cons_succ, List.getElem?_cons_zero]; exact rfl) (by kernel_rfl) (by kernel_rfl) (by kernel_rfl) (fun _ _ _ h => h) (Or.inl ⟨by rfl, ?_⟩) (by assumption) ?_
      rotate_left 1
      · (intro w hSw; (try dsimp only at hSw); go_simp; try with_reducible rfl)
      try simp only [Act.put, List.setIfInBounds_toArray, List.set_cons_zero, List.set_cons_succ]
      refine wpAnyH_take (i := 14) (v := ?_) (by simp only [List.getElem?_toArray, List.getElem?_cons_succ, List.getElem?_cons_zero]; exact rfl) (by kernel_rfl) (by kernel_rfl) (by kernel_rfl) (fun _ _ _ h => h) (Or.inl ⟨by rfl, ?_⟩) (by assumption) ?_
      rotate_left 1
      · (intro w hSw; (try dsimp only at hSw); go_simp; try with_reducible rfl)
      try simp only [Act.put, List.setIfInBounds_toArray, List.set_cons_zero, List.set_cons_succ]
      refine wpAnyH_take (i := 15) (v := ?_) (by simp only [List.getElem?_toArray, List.getElem?_cons_succ, List.getElem?_cons_zero]; exact rfl) (by kernel_rfl) (by kernel_rfl) (by kernel_rfl) (fun _ _ _ h => h) (Or.inl ⟨by rfl, ?_⟩) (by assumption) ?_
      rotate_left 1
      · (intro w hSw; (try dsimp only at hSw); go_simp; try with_reducible rfl)
      try simp only [Act.put, List.setIfInBounds_toArray, List.set_cons_zero, List.set_cons_succ]
      refine wpAnyH_take (i := 18) (v := ?_) (by simp only [List.getElem?_toArray, List.getElem?_cons_succ, List.getElem?_cons_zero]; exact rfl) (by kernel_rfl) (by kernel_rfl) (by kernel_rfl) (fun _ _ _ h => h) (Or.inl ⟨by rfl, ?_⟩) (by assumption) ?_
      rotate_left 1
      · (intro w hSw; (try dsimp only at hSw); go_simp; try with_reducible rfl)
      try simp only [Act.put, List.setIfInBounds_toArray, List.set_cons_zero, List.set_cons_succ]
      refine wpAnyH_take (i := 19) (v := ?_) (by simp only [List.getElem?_toArray, List.getElem?_cons_succ, List.getElem?_cons_zero]; exact rfl) (by kernel_rfl) (by kernel_rfl) (by kernel_rfl) (fun _ _ _ h => h) (Or.inl ⟨by rfl, ?_⟩) (by assumption) ?_
      rotate_left 1
      · (intro w hSw; (try dsimp only at hSw); go_simp; try with_reducible rfl)
      try simp only [Act.put, List.setIfInBounds_toArray, List.set_cons_zero, List.set_cons_succ]
      refine wpAnyH_take (i := 20) (v := ?_) (by simp only [List.getElem?_toArray, List.getElem?_cons_succ, List.getElem?_cons_zero]; exact rfl) (by kernel_rfl) (by kernel_rfl) (by kernel_rfl) (fun _ _ _ h => h) (Or.inl ⟨by rfl, ?_⟩) (by assumption) ?_
      rotate_left 1
      · (intro w hSw; (try dsimp only at hSw); go_simp; try with_reducible rfl)
      try simp only [Act.put, List.setIfInBounds_toArray, List.set_cons_zero, List.set_cons_succ]
      refine wpAnyH_take (i := 21) (v := ?_) (by simp only [List.getElem?_toArray, List.getElem?_cons_succ, List.getElem?_cons_zero]; exact rfl) (by kernel_rfl) (by kernel_rfl) (by kernel_rfl) (fun _ _ _ h => h) (Or.inl ⟨by rfl, ?_⟩) (by assumption) ?_
      rotate_left 1
      · (intro w hSw; (try dsimp only at hSw); go_simp; try with_reducible rfl)
      try simp only [Act.put, List.setIfInBounds_toArray, List.set_cons_zero, List.set_cons_succ]
      refine wpAnyH_ready (rs := [16]) (by kernel_rfl) (by simp) ?_
      refine (AllReadyH.cons (by simp only [List.getElem?_toArray, List.getElem?_cons_succ, List.getElem?_cons_zero]; exact rfl) (fun K hK => ?_) AllReadyH.nil)
      go_simp
      refine (HBY.out _).mono ?_
      rintro e w7 ⟨v7, rfl, hO7, hB7⟩
      obtain ⟨p7, c7, rfl, hs7, hp7, hc7⟩ := hO7.shape
      have hX7 := hHeld.2.2.2.2.2.trans (hB7.mono hHeld.2.2.2.2.2.size)
      have hcv7 := conv_str w7 p7 (encV f) _ c7 hs7 rfl hp7
      clear hO7 hB7 hs7 hp7 hc7
      go_wp2_with fail
      refine hK.out _ _ (HSS.out _ hX7) (fun hHeld => ?_)
      clear hK K
      try simp only [Act.put, List.setIfInBounds_toArray, List.set_cons_zero, List.set_cons_succ]
      refine wpAnyH_ready (rs := [17]) (by kernel_rfl) (by simp) ?_
      refine (AllReadyH.cons (by simp only [List.getElem?_toArray, List.getElem?_cons_succ, List.getElem?_cons_zero]; exact rfl) (fun K hK => ?_) AllReadyH.nil)
      go_simp
      refine hK.out _ _ hHeld (fun hHeld => ?_)
      clear hK K
      try simp only [Act.put, List.setIfInBounds_toArray, List.set_cons_zero, List.set_cons_succ]
      refine wpAnyH_take (i := 22) (v := ?_) (by simp only [List.getElem?_toArray, List.getElem?_cons_succ, List.getElem?_cons_zero]; exact rfl) (by kernel_rfl) (by kernel_rfl) (by kernel_rfl) (fun _ _ _ h => h) (Or.inl ⟨by rfl, ?_⟩) (by assumption) ?_
      rotate_left 1
      · (intro w hSw; (try dsimp only at hSw); go_simp; try with_reducible rfl)
      try simp only [Act.put, List.setIfInBounds_toArray, List.set_cons_zero, List.set_cons_succ]
      refine wpAnyH_take (i := 23) (v := ?_) (by simp only [List.getElem?_toArray, List.getElem?_cons_succ, List.getElem?_cons_zero]; exact rfl) (by kernel_rfl) (by kernel_rfl) (by kernel_rfl) (fun _ _ _ h => h) (Or.inl ⟨by rfl, ?_⟩) (by assumption) ?_
      rotate_left 1
      · (intro w hSw; (try dsimp only at hSw); go_simp; try with_reducible rfl)
      try simp only [Act.put, List.setIfInBounds_toArray, List.set_cons_zero, List.set_cons_succ]
      refine wpAnyH_take (i := 24) (v := ?_) (by simp only [List.getElem?_toArray, List.getElem?_cons_succ, List.getElem?_cons_zero]; exact rfl) (by kernel_rfl) (by kernel_rfl) (by kernel_rfl) (fun _ _ _ h => h) (Or.inl ⟨by rfl, ?_⟩) (by assumption) ?_
      rotate_left 1
      · (intro w hSw; (try dsimp only at hSw); go_simp; try with_reducible rfl)
      try simp only [Act.put, List.setIfInBounds_toArray, List.set_cons_zero, List.set_cons_succ]
      refine wpAnyH_done (by kernel_rfl) ?_ _
      refine NoPanic.normal ?_
      go_wp2
      go_ret
      exact ⟨rfl, HBE.out.trans (hX7.mono HBE.out.size)⟩
end
end Go.Proofs.Ytjpennbmphhipaa
