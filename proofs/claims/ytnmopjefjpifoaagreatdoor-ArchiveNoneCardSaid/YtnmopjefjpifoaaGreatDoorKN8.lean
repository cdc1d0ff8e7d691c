/- Merged texts: Prs10, Bys9, Fresh6, Rby10, Prb10, Plb10, Get11. -/
import Derived.Deep.RegionHeld3
import Derived.Test.YtnmopjefjpifoaaGreatDoorKN7
import Derived.Test.YtnmopjefjpifoaaGreatDoorKN1
import Derived.Test.YtnmopjefjpifoaaGreatDoorRef6
import Derived.Test.YtnmopjefjpifoaaGreatDoorKN6
import Derived.Lib.ConvBytes
import Derived.Test.YtnmopjefjpifoaaGreatDoorKN2
import Derived.Test.YtnmopjefjpifoaaGreatDoorKN4
import Derived.Test.YtnmopjefjpifoaaGreatDoorKN3
set_option linter.unusedSimpArgs false
set_option linter.unusedVariables false
/- record.Parse. -/
set_option maxRecDepth 100000
namespace Go.Proofs.YtnmopjefjpifoaaGreatDoor
open Go Go.RowKit

attribute [-go_sem] Sha.exec_store
theorem takeV_len {l : By} {f : Nat → Int} {rest : By} (h : takeV l = some (f, rest)) : rest.length ≤ l.length := by
  rw [takeV_eq] at h
  have := (takeR_enc h).1
  rw [this, List.length_append]
  omega
theorem digsN_len : ∀ {k : Nat} {l : By} {ds : List By} {rest : By}, digsN k l = some (ds, rest) → rest.length ≤ l.length ∧ (∀ d ∈ ds, d.length = 32)
  | 0, l, ds, rest, h => by
    rw [digsN] at h
    injection h with h
    injection h with h1 h2
    subst h1 h2
    exact ⟨Nat.le_refl _, fun d hd => by cases hd⟩
  | k + 1, l, ds, rest, h => by
    rw [digsN] at h
    split at h
    · cases h
    · rename_i hl
      cases e : digsN k (l.drop 32) with
      | none => rw [e] at h; cases h
      | some x =>
        rw [e] at h
        injection h with h
        injection h with h1 h2
        obtain ⟨i1, i2⟩ := digsN_len (ds := x.1) (rest := x.2) e
        subst h1 h2
        rw [List.length_drop] at i1
        refine ⟨by omega, fun d hd => ?_⟩
        rcases List.mem_cons.1 hd with rfl | hd
        · rw [List.length_take]; omega
        · exact i2 d hd
theorem stp_inv {α β : Type} {x : α × Nat × Nat} {l : By} {f : α → By → Except Nat β} {b : β} (h : stp x l f = .ok b) : x.2.2 = 0 ∧ f x.1 (l.drop x.2.1) = .ok b := by
  unfold stp at h
  split at h
  · exact ⟨by assumption, h⟩
  · cases h
theorem nextI_text_len {l : By} {most : Int} (h : (nextI l 2 most).2.2 = 0) : ((nextI l 2 most).1.b.length : Int) ≤ most := by
  rw [nextI_take (by decide) (by decide)] at h ⊢
  split
  · rename_i h1; rw [if_pos h1] at h; exact absurd h h1
  · rename_i h1
    rw [if_neg h1, if_neg (by omega)] at h
    rw [if_neg (by omega)]
    split
    · rename_i h2; rw [if_pos h2] at h; cases h
    · have h0 : (takeI l most).2.2 = 0 := by omega
      have := takeI_le (l := l) (n := (takeI l most).1) (k := (takeI l most).2.1) (most := most) (by rw [← h0])
      rw [List.length_take]
      have : (min (takeI l most).1 (l.drop (takeI l most).2.1).length : Nat) ≤ (takeI l most).1 := Nat.min_le_left _ _
      omega
/-- What was taken is no longer than the bytes; its path is short. -/
theorem takeRc_len {l : By} {r : RcT} {rest : By} (h : takeRc l = .ok (r, rest)) : rest.length ≤ l.length ∧ r.path.length ≤ 100 := by
  unfold takeRc at h
  obtain ⟨h0, h⟩ := stp_inv h
  have hp := nextI_text_len h0
  obtain ⟨-, h⟩ := stp_inv h
  obtain ⟨-, h⟩ := stp_inv h
  obtain ⟨-, h⟩ := stp_inv h
  split at h
  · cases h
  · rename_i f l5 hv
    have h5 := takeV_len hv
    obtain ⟨-, h⟩ := stp_inv h
    split at h
    · injection h with h
      injection h with h1 h2
      subst h1 h2
      simp only [List.length_drop] at h5 ⊢
      exact ⟨by omega, by first | omega | (dsimp only; omega)⟩
    · obtain ⟨-, h⟩ := stp_inv h
      obtain ⟨-, h⟩ := stp_inv h
      split at h
      · cases h
      · rename_i ds l9 hd
        have h9 := (digsN_len hd).1
        injection h with h
        injection h with h1 h2
        subst h1 h2
        simp only [List.length_drop] at h5 h9 ⊢
        exact ⟨by omega, by first | omega | (dsimp only; omega)⟩
theorem takeRc_nil : takeRc [] = .error 6 := by rfl
/-- Is it a valid record? -/
def goodT (r : RcT) : Bool := goodR (r.rc none 0)
/-- What Parse tells. -/
def parseC (l : By) : Nat × Option RcT :=
  match takeRc l with
  | .error c => (c, none)
  | .ok (r, l1) => if l1.length = 32 then (if deq (digL (l.take (l.length - 32))) l1 then (if goodT r then (0, some r) else (1, none)) else (11, none)) else (6, none)
attribute [local go_sem ↓] exec_boxA exec_loadA exec_indexA exec_allocA exec_storeA exec_buildA exec_eqlA exec_neqA exec_boxV exec_loadV exec_indexV exec_allocV exec_storeV exec_buildV exec_eqlV exec_neqV
attribute [local go_sem] boxA indexA storeNewA buildA eqlA neqA boxV indexV storeNewV buildV eqlV neqV

attribute [local go_sem ↓] exec_loadS exec_boxS exec_boxP exec_allocP exec_storeP exec_buildP exec_load32 exec_build32 exec_store32F exec_alloc32 exec_loadP2 exec_eqlD exec_neqD exec_bs
attribute [local go_sem] box_stamp boxP bd32 eqlD neqD bdP0 bsSl
theorem dgF_slX {w : World} {E : Nat} {T : TypeId} {l : By} (h : Row w E T 32 (dgF l)) (hl : l.length = 32) : Sl w (some ⟨E, 0, none⟩) l :=
  Sl.row h (by omega) fun j hj => rfl
theorem rdP_stay4 (p : Option Addr) (N : Nat) (w w' : World) (a : Addr) (l : By) (h : RdP p N w a l) (hb : w'.heap[a.block]? = w.heap[a.block]?) (hp : 0 < l.length → ∀ c o, p = some ⟨c, o, none⟩ → c < N → w'.heap[c]? = w.heap[c]?) : RdP p N w' a l := by
  obtain ⟨b, q, cap, rfl, h1, h2, h4, h5, h6, h7, h8⟩ := h
  refine ⟨b, q, cap, rfl, h1, h2.same hb, fun j hj => ?_, h5, h6, h7, h8⟩
  obtain ⟨c, o, e, hx⟩ := h4 j hj
  obtain ⟨hc, o', e'⟩ := h8 (by omega) c o e
  exact ⟨c, o, e, by rw [World.cell?_of_block (w := w) (hp (by omega) c o' e' hc)]; exact hx⟩
/-- What the function that Parse hands to Read leaves. -/
def PrsIn (p : Option Addr) (N : Nat) (w : World) (a : Addr) (l : By) (b4 b5 : Nat) (e : Ending) (w' : World) : Prop :=
  Loc N a.block w w' ∧ (∀ M, M ≤ b4 → M ≤ b5 → M ≤ N → Below M w w') ∧ match takeRc l with
    | .error c => c ≠ 0 ∧ Thrown (ThrP a) c e w'
    | .ok (r, l1) => (∃ q cap, Row w' b4 44 54 (rcF (r.rc q cap)) ∧ DgAt w' (r.rc q cap) r.ds ∧ ∀ c o, q = some ⟨c, o, none⟩ → w.heap.size ≤ c) ∧
      if l1.length < 32 then Thrown (ThrP a) 6 e w' else e = .returned (.tuple #[]) ∧ RdP p N w' a (l1.drop 32) ∧ Row w' b5 41 32 (dgF (l1.take 32))
set_option maxRecDepth 100000 in
set_option maxHeartbeats 4000000 in
theorem prs_in (p : Option Addr) (N : Nat) (w : World) (a : Addr) (l : By) (b4 b5 : Nat) (r4 : Rc) (g5 : Nat → Value) (hR : RdP p N w a l) (h4 : Row w b4 44 54 (rcF r4)) (h5 : Row w b5 41 32 g5) (l4 : b4 < N) (l5 : b5 < N) (hne : b4 ≠ b5) (hpp : 0 < l.length → ∀ c o, p = some ⟨c, o, none⟩ → c ≠ b4 ∧ c ≠ b5) :
    Calls Tryz.prog 189 (#[.pointer (some a)] ++ #[.pointer (some ⟨b4, 0, none⟩), .pointer (some ⟨b5, 0, none⟩)]) w (PrsIn p N w a l b4 b5) := by
  have hlie := rdP_lie _ _ _ _ _ hR
  have HT := Lib.hid (take10_any p N w a l hR)
  have HLI := Lib.hid (And.intro hlie (And.intro l4 (And.intro l5 hne)))
  have H45 := Lib.hid (And.intro h4 h5)
  have HPP := Lib.hid hpp
  show Calls Tryz.prog _ #[.pointer (some a), .pointer (some ⟨b4, 0, none⟩), .pointer (some ⟨b5, 0, none⟩)] w _
  clear hR h4 h5 hlie l4 l5 hne hpp
  cases hT : takeRc l with
  | error c =>
    rw [hT] at HT
    have HTE := Lib.hid hT
    clear hT
    go_enter Tryz.func189, Tryz.ntmps189
    go_wp2_with fail
    refine HT.out.mono ?_
    rintro e w1 ⟨hK, hc, v, hv, rfl⟩
    refine ⟨rfl, Loc.ofKp hK, fun M h1 h2 h3 => hK.below (by have := HLI.out; omega) (by have := HLI.out; omega), ?_⟩
    rw [HTE.out]
    exact ⟨hc, v, hv, rfl⟩
  | ok x =>
    obtain ⟨r, l1⟩ := x
    rw [hT] at HT
    have hl0 : 0 < l.length := by
      cases l with
      | nil => rw [takeRc_nil] at hT; cases hT
      | cons y t => simp
    have HPL := Lib.hid (HPP.out hl0)
    have HTE := Lib.hid hT
    clear hT hl0
    go_enter Tryz.func189, Tryz.ntmps189
    go_wp2_with fail
    refine HT.out.mono ?_
    rintro e w1 ⟨hK, ⟨q, cap, rfl, hD, hq⟩, hR1⟩
    obtain ⟨u1, hst, hR4, hK4⟩ := storeRT rtP (H45.out.1.of_kp hK (by have := HLI.out; omega)) (r.rc q cap)
    have hsz1 : w.heap.size ≤ w1.heap.size := hK.size
    have hsz2 : w1.heap.size ≤ u1.heap.size := hK4.size
    have hR5 := (H45.out.2.of_kp hK (by have := HLI.out; omega)).of_kp hK4 (by have := HLI.out; omega)
    have hRD := rdP_stay4 _ _ _ u1 _ _ hR1 (hK4.block _ (by have := HLI.out; omega) (by have := HLI.out; omega)) (fun h c o e hc => hK4.block c (by have := HLI.out; omega) (HPL.out c o e).1)
    have hD1 := hD.keep (u := u1) (fun c o e hlt => hK4.block c hlt (by have := hq c o e; have := HLI.out; omega))
    have HA := Lib.hid (And.intro hR4 (And.intro hR5 (And.intro hRD (And.intro hD1 (And.intro hq (And.intro hsz1 hsz2))))))
    have HLO := Lib.hid (show Loc N a.block w u1 from ⟨Nat.le_trans hsz1 hsz2, fun k h1 h2 h3 => (hK4.block k (by omega) (by have := HLI.out; omega)).trans (hK.block k h2 h3)⟩)
    have HBW := Lib.hid (show ∀ M, M ≤ b4 → M ≤ b5 → M ≤ N → Below M w u1 from fun M h1 h2 h3 => (hK.below (by have := HLI.out; omega) (by have := HLI.out; omega)).trans (hK4.below h1 (by have := HLI.out; omega)))
    have HDG := Lib.hid (rdP_digest p N u1 a l1 hRD)
    obtain ⟨y, hy⟩ : ∃ y, nextI l1 4 0 = y := ⟨_, rfl⟩
    obtain ⟨dx, k4, c4⟩ := y
    have hcode := nextI_code hy
    rw [hy] at HDG
    try dsimp only at HDG
    clear hK hR4 hK4 hR5 hRD hD1 hq hD hR1 hsz1 hsz2 hy
    by_cases hc4 : c4 = 0
    · subst hc4
      obtain ⟨e1, e2, e3⟩ := hcode.1 rfl
      subst e2
      have hlen : dx.b.length = 32 := by rw [e1, List.length_take]; omega
      have HE := Lib.hid (And.intro e1 (And.intro e3 hlen))
      clear e1 e3 hcode hlen
      go_wp2_with fail
      clear hst
      refine HDG.out.mono ?_
      rintro e w2 ⟨hK2, h2⟩
      obtain ⟨-, ⟨v, rfl, hval⟩, hR2⟩ := h2.resolve_right (fun h => h.1 rfl)
      subst hval
      obtain ⟨hR4, hR5, hRD, hD1, hq, hsz1, hsz2⟩ := HA.out
      obtain ⟨u2, hst2, hR52, hK52⟩ := st_row32 (hR5.of_kp hK2 (by have := HLI.out; omega)) dx.b
      have hsz3 : u1.heap.size ≤ w2.heap.size := hK2.size
      have hR42 := (hR4.of_kp hK2 (by have := HLI.out; omega)).of_kp hK52 (by have := HLI.out; omega)
      have hRD2 := rdP_stay4 _ _ _ u2 _ _ hR2 (hK52.block _ (by have := HLI.out; omega) (by have := HLI.out; omega)) (fun h c o e hc => hK52.block c (by have := HLI.out; omega) (HPL.out c o e).2)
      have hD2 := (hD1.keep (u := w2) (fun c o e hlt => hK2.block c hlt (by have := hq c o e; have := HLI.out; omega))).keep (u := u2) (fun c o e hlt => hK52.block c hlt (by have := hq c o e; have := HLI.out; omega))
      have HFIN := Lib.hid (show PrsIn p N w a l b4 b5 (.returned (.tuple #[])) u2 from by
        refine ⟨⟨Nat.le_trans HLO.out.size (Nat.le_trans hsz3 hK52.size), fun k h1 h2 h3 => (hK52.block k (by omega) (by have := HLI.out; omega)).trans ((hK2.block k (by omega) h3).trans (HLO.out.block k h1 h2 h3))⟩, fun M h1 h2 h3 => ((HBW.out M h1 h2 h3).trans (hK2.below (by have := HLI.out; omega) (by have := HLI.out; omega))).trans (hK52.below h2 (by have := HLI.out; omega)), ?_⟩
        rw [HTE.out]
        dsimp only
        refine ⟨⟨q, cap, hR42, hD2, hq⟩, ?_⟩
        rw [if_neg (by have := HE.out.2.1; omega), ← HE.out.1]
        exact ⟨rfl, hRD2, hR52⟩)
      clear hK2 h2 hR2 hR4 hR5 hRD hD1 hq hsz1 hsz2 hsz3 hR52 hK52 hR42 hRD2 hD2
      go_wp2
      go_end0
      exact HFIN.out
    · have HC4 := Lib.hid (And.intro hc4 (hcode.2 hc4))
      clear hc4 hcode
      go_wp2_with fail
      clear hst
      refine HDG.out.mono ?_
      rintro e w2 ⟨hK2, ⟨hcc, -⟩ | ⟨hcc, v, hv, rfl⟩⟩
      · exact absurd hcc HC4.out.1
      · obtain ⟨hR4, hR5, hRD, hD1, hq, hsz1, hsz2⟩ := HA.out
        have hsz3 : u1.heap.size ≤ w2.heap.size := hK2.size
        refine ⟨rfl, ⟨Nat.le_trans HLO.out.size hsz3, fun k h1 h2 h3 => (hK2.block k (by omega) h3).trans (HLO.out.block k h1 h2 h3)⟩, fun M h1 h2 h3 => (HBW.out M h1 h2 h3).trans (hK2.below (by have := HLI.out; omega) (by have := HLI.out; omega)), ?_⟩
        rw [HTE.out]
        dsimp only
        refine ⟨⟨q, cap, hR4.of_kp hK2 (by have := HLI.out; omega), hD1.keep (u := w2) (fun c o e hlt => hK2.block c hlt (by have := hq c o e; have := HLI.out; omega)), hq⟩, ?_⟩
        rw [if_pos HC4.out.2.2]
        have h6 := HC4.out.2.1
        subst h6
        exact ⟨v, hv, rfl⟩
/-- The record that Parse tells. -/
def PrsPost (M : Nat) (w' : World) (x : Option RcT) (R : Rc) : Prop := match x with
  | some r => ∃ q' cap', R = r.rc q' cap' ∧ DgAt w' R r.ds ∧ ∀ c o, q' = some ⟨c, o, none⟩ → M ≤ c
  | none => R = rc0
theorem sl_hiX (q : Option Addr) (n cap k : Nat) (w : World) (hk : k ≤ cap) : (Instr.slice 53 (.slice q n cap) none (some (.int .i64 (k : Int))) none).run Tryz.prog w = .ok (.slice q k cap) w := by
  rw [run_slice_h (P := Tryz.prog) w 53 q n cap und35 .i64 (k : Int) (by omega) (by omega), sizeB]
  simp only [Sem.run_bind, Result.andThen_ok, Sem.run_pure, sliced, Int.toNat_natCast, Nat.zero_mul, Nat.sub_zero]
  have := cutA_zero q cap
  unfold cutA at this
  rw [this]
theorem enters_prs : ∀ args w, (callFunc 189 args).run Tryz.prog w = .ok (.enter 189 args) w := enters_of Tryz.func189 (by kernel_rfl) rfl
theorem mkFnR : ∀ (fn : Fn) (first cap : Array Value) (w : World), (Instr.makeFunc fn first cap).run Tryz.prog w = .ok (.func fn first cap) w := fun _ _ _ _ => rfl
attribute [local go_sem] mkFnR
/-- What Read leaves of Parse's variables. -/
def PrsJ (l : By) (w : World) (M : Nat) (c : Nat) (u : World) : Prop :=
  Below M w u ∧ M + 3 ≤ u.heap.size ∧ Row u M 44 54 (rcF rc0) ∧ match takeRc l with
    | .error c' => c = c' ∧ c ≠ 0
    | .ok (r, l1) => (∃ q cap, Row u (M + 1) 44 54 (rcF (r.rc q cap)) ∧ DgAt u (r.rc q cap) r.ds ∧ ∀ c o, q = some ⟨c, o, none⟩ → M + 6 ≤ c) ∧
      if l1.length < 32 then c = 6 else c = (if l1.length = 32 then 0 else 6) ∧ Row u (M + 2) 41 32 (dgF (l1.take 32))
theorem prsJ_stay (l : By) (w : World) (M : Nat) (c : Nat) (x y : World) (h : PrsJ l w M c x) (hB : Below (M + 3) x y) (hk : ∀ k, k < x.heap.size → k ≠ M + 3 → k ≠ M + 3 + 1 → y.heap[k]? = x.heap[k]?) : PrsJ l w M c y := by
  obtain ⟨h1, h2, h3, h4⟩ := h
  refine ⟨h1.trans (hB.mono (by omega)), Nat.le_trans h2 hB.size, h3.below hB (by omega), ?_⟩
  cases hT : takeRc l with
  | error c' => rw [hT] at h4; exact h4
  | ok z =>
    obtain ⟨r, l1⟩ := z
    rw [hT] at h4
    dsimp only at h4 ⊢
    obtain ⟨⟨q, cap, a1, a2, a3⟩, a4⟩ := h4
    refine ⟨⟨q, cap, a1.below hB (by omega), a2.keep (fun c o e hlt => hk c hlt (by have := a3 c o e; omega) (by have := a3 c o e; omega)), a3⟩, ?_⟩
    split
    · rename_i hl; rw [if_pos hl] at a4; exact a4
    · rename_i hl; rw [if_neg hl] at a4; exact ⟨a4.1, a4.2.below hB (by omega)⟩
set_option maxRecDepth 100000 in
set_option maxHeartbeats 8000000 in
theorem parse10_any (l : By) (q : Option Addr) (n cap : Nat) (w : World) (hl : l.length = n) (hs : Sl w q l) (hq : q = none → cap = 0) (hc : n ≤ cap) (hn : n < 1000000) (hTb : Tb w) :
    Calls Tryz.prog 137 #[.slice q n cap] w fun e w' => ∃ R, e = .returned (.tuple #[rcV R, .int .i64 ((parseC l).1 : Int)]) ∧ Below w.heap.size w w' ∧ PrsPost w.heap.size w' (parseC l).2 R := by
  obtain ⟨PC, hPC⟩ : ∃ PC, parseC l = PC := ⟨_, rfl⟩
  have HPE := Lib.hid hPC
  rw [hPC]
  clear hPC
  obtain ⟨M, hM⟩ : ∃ M, w.heap.size = M := ⟨_, rfl⟩
  obtain ⟨W1, hW1⟩ : ∃ W, w.alloc (.cells (tab 54 (rcF rc0)) 44) = W := ⟨_, rfl⟩
  obtain ⟨W2, hW2⟩ : ∃ W, W1.alloc (.cells (tab 54 (rcF rc0)) 44) = W := ⟨_, rfl⟩
  obtain ⟨W3, hW3⟩ : ∃ W, W2.alloc (.cells (zb 32) 41) = W := ⟨_, rfl⟩
  have hB1 : Below w.heap.size w W1 := by rw [← hW1]; exact below_newD _ _
  have hB2 : Below W1.heap.size W1 W2 := by rw [← hW2]; exact below_newD _ _
  have hB3 : Below W2.heap.size W2 W3 := by rw [← hW3]; exact below_newD _ _
  have z1 : W1.heap.size = M + 1 := by rw [← hW1]; simp [hM]
  have z2 : W2.heap.size = M + 2 := by rw [← hW2]; simp [z1]
  have z3 : W3.heap.size = M + 3 := by rw [← hW3]; simp [z2]
  have hR2 : Row W1 M 44 54 (rcF rc0) := by rw [← hM, ← hW1]; exact Row.new _ _ _ _
  have hR4 : Row W2 (M + 1) 44 54 (rcF rc0) := by rw [← z1, ← hW2]; exact Row.new _ _ _ _
  have hR5 : Row W3 (M + 2) 41 32 (fun _ => B 0#8) := by
    have e0 : zb 32 = tab 32 (fun _ => B 0#8) := by unfold zb; exact tab_congr fun j hj => by rw [B_eq']
    rw [← z2, ← hW3, e0]; exact Row.new _ _ _ _
  have hR23 := (hR2.of_below hB2).of_below hB3
  have hR43 := hR4.of_below hB3
  have hBW : Below w.heap.size w W3 := hB1.trans ((hB2.trans (hB3.mono hB2.size)).mono hB1.size)
  have hs3 := hs.of_below hBW
  have hpp : 0 < l.length → ∀ c o, q = some ⟨c, o, none⟩ → c < M := fun h0 c o e => by
    obtain ⟨c', o', e', hx⟩ := hs 0 h0
    rw [e] at e'
    injection e' with e'
    injection e' with e1 _
    subst e1
    rw [← hM]
    exact World.block_lt_of_cell? w _ hx
  have HRD := Lib.hid (readJ_any l q n cap 189 #[.pointer (some ⟨M + 1, 0, none⟩), .pointer (some ⟨M + 2, 0, none⟩)] W3 (PrsJ l w M) hl hs3 hq hc hn enters_prs
    (fun c x y h k1 k2 => prsJ_stay l w M c x y h (by rw [← z3]; exact k1) (by rw [← z3]; exact k2))
    (fun a u hb hsz hr => (prs_in q W3.heap.size u a l (M + 1) (M + 2) rc0 _ hr (hR43.of_below hb) (hR5.of_below hb) (by omega) (by omega) (by omega) (fun h0 c o e => by have := hpp h0 c o e; omega)).mono fun e u2 ⟨k1, k2, k3⟩ => by
      refine ⟨k1, ?_⟩
      have hj1 : Below M w u2 := by
        have h1 := k2 M (by omega) (by omega) (by omega)
        rw [hM] at hBW
        exact hBW.trans ((hb.mono (by omega)).trans h1)
      have hj2 : M + 3 ≤ u2.heap.size := by have := k1.size; have := hb.size; omega
      have hj3 : Row u2 M 44 54 (rcF rc0) := by
        have h1 := k2 (M + 1) (by omega) (by omega) (by omega)
        exact (hR23.of_below hb).below h1 (by omega)
      unfold PrsJ
      cases hT : takeRc l with
      | error c' =>
        rw [hT] at k3
        exact .inr ⟨c', k3.2, hj1, hj2, hj3, rfl, k3.1⟩
      | ok z =>
        obtain ⟨r, l1⟩ := z
        rw [hT] at k3
        dsimp only at k3 ⊢
        obtain ⟨⟨q4, c4, a1, a2, a3⟩, a4⟩ := k3
        have hA : ∃ q cap, Row u2 (M + 1) 44 54 (rcF (r.rc q cap)) ∧ DgAt u2 (r.rc q cap) r.ds ∧ ∀ c o, q = some ⟨c, o, none⟩ → M + 6 ≤ c := ⟨q4, c4, a1, a2, fun c o e => by have := a3 c o e; omega⟩
        by_cases hlt : l1.length < 32
        · rw [if_pos hlt] at a4
          exact .inr ⟨6, a4, hj1, hj2, hj3, hA, by rw [if_pos hlt]⟩
        · rw [if_neg hlt] at a4
          refine .inl ⟨l1.drop 32, a4.1, a4.2.1, hj1, hj2, hj3, hA, ?_⟩
          rw [if_neg hlt]
          refine ⟨?_, a4.2.2⟩
          by_cases h32 : l1.length = 32
          · rw [if_pos h32, if_pos (List.drop_of_length_le (by omega))]
          · rw [if_neg h32, if_neg (fun h => by have := congrArg List.length h; rw [List.length_drop] at this; simp at this; omega)]))
  have HBW0 := Lib.hid (show ∀ (u u2 : World), Below M w u → M + 3 ≤ u.heap.size → Kp M u u2 → Below M w u2 from fun u u2 h1 h2 h3 => by exact h1.trans (h3.below (Nat.le_refl _) (by omega)))
  have HSL := Lib.hid (And.intro hs (And.intro hl (And.intro hTb hM)))
  have HZ := Lib.hid (And.intro z1 z2)
  clear hB1 hB2 hB3 z1 z2 z3 hR2 hR4 hR5 hR23 hR43 hBW hs3 hpp hs hl hq hTb
  go_enter Tryz.func137, Tryz.ntmps137
  try rw [hM]
  go_wp2_with fail
  clear hW1 hW2 hW3
  try rw [hM]
  try rw [HZ.out.1]
  try rw [HZ.out.2]
  refine HRD.out.mono ?_
  rintro e u3 ⟨code, rfl, hJ⟩
  obtain ⟨j1, j2, j3, j4⟩ := hJ
  have HJ := Lib.hid (And.intro j1 (And.intro j2 j3))
  clear j1 j2 j3 HRD hM
  cases hT : takeRc l with
  | error c' =>
    rw [hT] at j4
    obtain ⟨rfl, hc0⟩ := j4
    obtain rfl : PC = (code, none) := by rw [← HPE.out]; unfold parseC; rw [hT]
    have hci : ¬ (code : Int) = 0 := by omega
    have hcd : decide ((code : Int) = 0) = false := decide_eq_false hci
    obtain ⟨u9, hst9, hR9, hK9⟩ := storeRT rtP HJ.out.2.2 rc0
    have HR9 := Lib.hid hR9
    have HB9 := Lib.hid (HBW0.out u3 u9 HJ.out.1 HJ.out.2.1 hK9)
    clear hR9 hK9 hT hc0
    go_wp2
    refine bodyPost_ret (resR2 rtP rfl _ u9 M 44 rc0 (.int .i64 (code : Int)) rfl rfl HR9.out) rfl ?_
    exact ⟨rc0, rfl, HB9.out, rfl⟩
  | ok z =>
    obtain ⟨r, l1⟩ := z
    rw [hT] at j4
    dsimp only at j4
    obtain ⟨⟨q4, c4, a1, a2, a3⟩, a4⟩ := j4
    by_cases h32 : l1.length = 32
    · rw [if_neg (by omega), if_pos h32] at a4
      obtain ⟨rfl, a4⟩ := a4
      have htk : l1.take 32 = l1 := List.take_of_length_le (by omega)
      rw [htk] at a4
      have hln := takeRc_len hT
      have hn32 : 32 ≤ n := by have := HSL.out.2.1; omega
      have HPC := Lib.hid (show parseC l = if deq (digL (l.take (l.length - 32))) l1 then (if goodT r then (0, some r) else (1, none)) else (11, none) from by unfold parseC; rw [hT]; dsimp only; rw [if_pos h32])
      obtain ⟨d0, hd0⟩ : ∃ d, digL (l.take (l.length - 32)) = d := ⟨_, rfl⟩
      obtain ⟨d1, hd1⟩ : ∃ d, l1 = d := ⟨_, rfl⟩
      rw [hd0, hd1] at HPC
      rw [hd1] at a4 h32
      have HR4 := Lib.hid a1
      have HR2 := Lib.hid HJ.out.2.2
      have HDG := Lib.hid a2
      have HQB := Lib.hid a3
      have HRP := Lib.hid (show (r.rc q4 c4).path.length = r.path.length from by unfold RcT.rc; rw [pS_len])
      have HRL := Lib.hid hln.2
      have HMM := Lib.hid HSL.out.2.2.2
      obtain ⟨k9, hk9⟩ : ∃ k, n - 32 = k := ⟨_, rfl⟩
      have HS := Lib.hid (fun (u : World) (hu : Below u3.heap.size u3 u) => (show _ ∧ _ from ⟨ld_dig (dgF_slX (a4.of_below hu) h32) h32, hu⟩))
      have hBu : ∀ u, Below u3.heap.size u3 u → Below w.heap.size w u := fun u hu => by have := HSL.out.2.2.2; rw [this]; exact HJ.out.1.trans (hu.mono (by have := HJ.out.2.1; omega))
      have HSM := Lib.hid (fun (b : Nat) (u : World) (hu : Below u3.heap.size u3 u) (hc4 : u.cell? ⟨b, 0, none⟩ = some (.slice q k9 cap)) => sum1_any (l.take (l.length - 32)) b 0 q k9 cap u (by rw [List.length_take]; have := HSL.out.2.1; omega) hc4 ((HSL.out.1.of_below (hBu u hu)).take _) (HSL.out.2.2.1.on (hBu u hu)) (by omega))
      rw [hd0] at HSM
      have HBW := Lib.hid (fun (u u2 : World) (hu : Below u3.heap.size u3 u) (hk : Kp M u u2) => HBW0.out u u2 (HJ.out.1.trans (hu.mono (by have := HJ.out.2.1; omega))) (Nat.le_trans HJ.out.2.1 hu.size) hk)
      have w1 : IntKind.i64.wrap ((n : Int) - 32) = (k9 : Int) := by rw [IntKind.wrap_i64]; omega
      have w2 : (n : Int) - 32 = (k9 : Int) := by omega
      have w3 : IntKind.i64.wrap (k9 : Int) = (k9 : Int) := by rw [IntKind.wrap_i64]; omega
      have hsl := fun u => sl_hiX q n cap k9 u (by omega)
      clear a1 a2 a3 a4 hT htk hln hd0 hd1 h32 hBu
      go_wp2
      refine wp_region_noPanic ?_
      refine wp_region_held_drew (S := (fun u : World => (ldT 41 (.pointer (some ⟨M + 2, 0, none⟩))).run Tryz.prog u = .ok (.value (digV d1)) u ∧ Below u3.heap.size u3 u)) (by kernel_rfl) (HS.out _ (Below.refl _ _).drew) (fun hHeld => ?_)
      generalize u3.drew = x at hHeld ⊢
      refine wpAnyH_take (i := 0) (v := ?_) (by simp only [List.getElem?_toArray, List.getElem?_cons_succ, List.getElem?_cons_zero]; exact rfl) (by kernel_rfl) (by kernel_rfl) (by kernel_rfl) (fun _ _ _ h => h) (Or.inl ⟨by rfl, ?_⟩) (by assumption) ?_
      rotate_left 1
      · (intro w hSw; (try dsimp only at hSw); go_simp; try with_reducible rfl)
      try simp only [Act.put, List.setIfInBounds_toArray, List.set_cons_zero, List.set_cons_succ]
      refine wpAnyH_take (i := 1) (v := ?_) (by simp only [List.getElem?_toArray, List.getElem?_cons_succ, List.getElem?_cons_zero]; exact rfl) (by kernel_rfl) (by kernel_rfl) (by kernel_rfl) (fun _ _ _ h => h) (Or.inl ⟨by rfl, ?_⟩) (by assumption) ?_
      rotate_left 1
      · (intro w hSw; (try dsimp only at hSw); go_simp; try with_reducible rfl)
      try simp only [Act.put, List.setIfInBounds_toArray, List.set_cons_zero, List.set_cons_succ]
      refine wpAnyH_take (i := 2) (v := ?_) (by simp only [List.getElem?_toArray, List.getElem?_cons_succ, List.getElem?_cons_zero]; exact rfl) (by kernel_rfl) (by kernel_rfl) (by kernel_rfl) (fun _ _ _ h => h) (Or.inl ⟨by rfl, ?_⟩) (by assumption) ?_
      rotate_left 1
      · (intro w hSw; (try dsimp only at hSw); go_simp; try with_reducible rfl)
      try simp only [Act.put, List.setIfInBounds_toArray, List.set_cons_zero, List.set_cons_succ]
      refine wpAnyH_take (i := 3) (v := ?_) (by simp only [List.getElem?_toArray, List.getElem?_cons_succ, List.getElem?_cons_zero]; exact rfl) (by kernel_rfl) (by kernel_rfl) (by kernel_rfl) (fun _ _ _ h => h) (Or.inl ⟨by rfl, ?_⟩) (by assumption) ?_
      rotate_left 1
      · (intro w hSw; (try dsimp only at hSw); go_simp; try with_reducible rfl)
      try simp only [Act.put, List.setIfInBounds_toArray, List.set_cons_zero, List.set_cons_succ]
      refine wpAnyH_take (i := 4) (v := ?_) (by simp only [List.getElem?_toArray, List.getElem?_cons_succ, List.getElem?_cons_zero]; exact rfl) (by kernel_rfl) (by kernel_rfl) (by kernel_rfl) (fun _ _ _ h => h) (Or.inl ⟨by rfl, ?_⟩) (by assumption) ?_
      rotate_left 1
      · (intro w hSw; (try dsimp only at hSw); go_simp; try with_reducible rfl)
      try simp only [Act.put, List.setIfInBounds_toArray, List.set_cons_zero, List.set_cons_succ]
      refine wpAnyH_take (i := 7) (v := ?_) (by simp only [List.getElem?_toArray, List.getElem?_cons_succ, List.getElem?_cons_zero]; exact rfl) (by kernel_rfl) (by kernel_rfl) (by kernel_rfl) (fun _ _ _ h => h) (Or.inl ⟨by rfl, ?_⟩) (by assumption) ?_
      rotate_left 1
      · (intro w hSw; (try dsimp only at hSw); go_simp; try with_reducible rfl)
      try simp only [Act.put, List.setIfInBounds_toArray, List.set_cons_zero, List.set_cons_succ]
      refine wpAnyH_ready (rs := [5]) (by kernel_rfl) (by simp) ?_
      refine (AllReadyH.cons (by simp only [List.getElem?_toArray, List.getElem?_cons_succ, List.getElem?_cons_zero]; exact rfl) (fun K hK => ?_) AllReadyH.nil)
      go_simp
      obtain ⟨y, hy⟩ : ∃ y, (x.alloc (.cells #[.slice q k9 cap] 53)) = y := ⟨_, rfl⟩
      have hBa : Below x.heap.size x y := by rw [← hy]; exact below_newD _ _
      have hC := (show y.cell? ⟨x.heap.size, 0, none⟩ = some (.slice q k9 cap) from by rw [← hy]; exact World.cell?_alloc_new _ _ _ _)
      rw [hy]
      have hXY := hHeld.2.trans (hBa.mono hHeld.2.size)
      clear hy hBa
      refine hK.out _ _ (HS.out _ hXY) (fun hHeld => ?_)
      clear hK K
      try simp only [Act.put, List.setIfInBounds_toArray, List.set_cons_zero, List.set_cons_succ]
      refine wpAnyH_ready (rs := [6]) (by kernel_rfl) (by simp) ?_
      refine (AllReadyH.cons (by simp only [List.getElem?_toArray, List.getElem?_cons_succ, List.getElem?_cons_zero]; exact rfl) (fun K hK => ?_) AllReadyH.nil)
      go_simp
      refine (HSM.out x.heap.size y hXY hC).mono ?_
      rintro e z ⟨rfl, hb5⟩
      have hXZ := hXY.trans (hb5.mono hXY.size)
      go_wp2_with fail
      refine hK.out _ _ (HS.out _ hXZ) (fun hHeld => ?_)
      clear hK K
      try simp only [Act.put, List.setIfInBounds_toArray, List.set_cons_zero, List.set_cons_succ]
      refine wpAnyH_take (i := 8) (v := ?_) (by simp only [List.getElem?_toArray, List.getElem?_cons_succ, List.getElem?_cons_zero]; exact rfl) (by kernel_rfl) (by kernel_rfl) (by kernel_rfl) (fun _ _ _ h => h) (Or.inl ⟨by rfl, ?_⟩) (by assumption) ?_
      rotate_left 1
      · (intro w hSw; (try dsimp only at hSw); go_simp; try with_reducible rfl)
      try simp only [Act.put, List.setIfInBounds_toArray, List.set_cons_zero, List.set_cons_succ]
      refine wpAnyH_take (i := 9) (v := ?_) (by simp only [List.getElem?_toArray, List.getElem?_cons_succ, List.getElem?_cons_zero]; exact rfl) (by kernel_rfl) (by kernel_rfl) (by kernel_rfl) (fun _ _ _ h => h) (Or.inl ⟨by rfl, ?_⟩) (by assumption) ?_
      rotate_left 1
      · (intro w hSw; (try dsimp only at hSw); go_simp; try with_reducible rfl)
      try simp only [Act.put, List.setIfInBounds_toArray, List.set_cons_zero, List.set_cons_succ]
      refine wpAnyH_done (by kernel_rfl) ?_ _
      refine NoPanic.normal ?_
      have HZ := Lib.hid hHeld.2
      clear hHeld
      obtain ⟨uz, huz⟩ : ∃ uz, z = uz := ⟨_, rfl⟩
      rw [huz] at HZ ⊢
      clear huz
      cases hdq : deq d0 d1 with
      | false =>
        rw [hdq] at HPC
        obtain ⟨u9, hst9, hR9, hK9⟩ := storeRT rtP (HR2.out.of_below HZ.out) rc0
        have HR9 := Lib.hid hR9
        have HB9 := Lib.hid (HBW.out uz u9 HZ.out hK9)
        obtain rfl : PC = (11, none) := by rw [← HPE.out, HPC.out]; rfl
        clear hR9 hK9
        go_wp2
        refine bodyPost_ret (resR2 rtP rfl _ u9 M 44 rc0 (.int .i64 11) rfl rfl HR9.out) rfl ?_
        exact ⟨rc0, rfl, HB9.out, rfl⟩
      | true =>
        rw [hdq] at HPC
        have l1 := loadRT rtP (HR4.out.of_below HZ.out)
        have HGD := Lib.hid (good10_any (r.rc q4 c4) (by rw [HRP.out]; have := HRL.out; omega) HDG.out.whole uz)
        have hgr : goodR (r.rc q4 c4) = goodT r := rfl
        rw [hgr] at HGD
        clear hgr
        cases hg : goodT r with
        | false =>
          rw [hg] at HGD HPC
          obtain rfl : PC = (1, none) := by rw [← HPE.out, HPC.out]; rfl
          go_wp2_with fail
          clear l1
          refine HGD.out.mono ?_
          rintro e ux ⟨rfl, hBx⟩
          have hZx := HZ.out.trans (hBx.mono HZ.out.size)
          obtain ⟨u9, hst9, hR9, hK9⟩ := storeRT rtP (HR2.out.of_below hZx) rc0
          have HR9 := Lib.hid hR9
          have HB9 := Lib.hid (HBW.out ux u9 hZx hK9)
          clear hR9 hK9 hBx hZx
          go_wp2
          refine bodyPost_ret (resR2 rtP rfl _ u9 M 44 rc0 (.int .i64 1) rfl rfl HR9.out) rfl ?_
          exact ⟨rc0, rfl, HB9.out, rfl⟩
        | true =>
          rw [hg] at HGD HPC
          obtain rfl : PC = (0, some r) := by rw [← HPE.out, HPC.out]; rfl
          go_wp2_with fail
          clear l1
          refine HGD.out.mono ?_
          rintro e ux ⟨rfl, hBx⟩
          have hZx := HZ.out.trans (hBx.mono HZ.out.size)
          have l1 := loadRT rtP (HR4.out.of_below hZx)
          obtain ⟨u9, hst9, hR9, hK9⟩ := storeRT rtP (HR2.out.of_below hZx) (r.rc q4 c4)
          have HR9 := Lib.hid hR9
          have HB9 := Lib.hid (HBW.out ux u9 hZx hK9)
          have HD9 := Lib.hid ((HDG.out.of_below hZx).keep (fun c o e hlt => hK9.block c hlt (by have := HQB.out c o e; omega)))
          clear hR9 hK9 hBx hZx
          go_wp2
          refine bodyPost_ret (resR2 rtP rfl _ u9 M 44 (r.rc q4 c4) (.int .i64 0) rfl rfl HR9.out) rfl ?_
          exact ⟨_, rfl, HB9.out, q4, c4, rfl, HD9.out, fun c o e => by have := HQB.out c o e; omega⟩
    · have hcode : code = 6 := by
        by_cases hlt : l1.length < 32
        · rw [if_pos hlt] at a4; exact a4
        · rw [if_neg hlt, if_neg h32] at a4; exact a4.1
      subst hcode
      obtain rfl : PC = (6, none) := by rw [← HPE.out]; unfold parseC; rw [hT]; dsimp only; rw [if_neg h32]
      obtain ⟨u9, hst9, hR9, hK9⟩ := storeRT rtP HJ.out.2.2 rc0
      have HR9 := Lib.hid hR9
      have HB9 := Lib.hid (HBW0.out u3 u9 HJ.out.1 HJ.out.2.1 hK9)
      clear hR9 hK9 hT a1 a2 a3 a4 h32
      go_wp2
      refine bodyPost_ret (resR2 rtP rfl _ u9 M 44 rc0 (.int .i64 6) rfl rfl HR9.out) rfl ?_
      exact ⟨rc0, rfl, HB9.out, rfl⟩
end Go.Proofs.YtnmopjefjpifoaaGreatDoor
/- Bytes of the reference: the encoding of a good vector. -/
set_option maxRecDepth 100000
namespace Go.Proofs.YtnmopjefjpifoaaGreatDoor
open Go Go.RowKit
attribute [-go_sem] Sha.exec_store

attribute [local go_sem ↓] exec_boxA exec_loadA exec_indexA exec_allocA exec_storeA exec_buildA exec_eqlA exec_neqA exec_boxV exec_loadV exec_indexV exec_allocV exec_storeV exec_buildV exec_eqlV exec_neqV
attribute [local go_sem] boxA indexA storeNewA buildA eqlA neqA boxV indexV storeNewV buildV eqlV neqV
end Go.Proofs.YtnmopjefjpifoaaGreatDoor
/- Bytes that a call made and that may be written; a string as bytes. -/
set_option maxRecDepth 100000
namespace Go.Proofs.YtnmopjefjpifoaaGreatDoor
open Go Go.RowKit
attribute [-go_sem] Sha.exec_store

/-- The bytes b lie at q, in a block from base on, and may be written. -/
structure Fresh (w : World) (base : Nat) (q : Option Addr) (c : Nat) (b : List (BitVec 8)) : Prop where
  sl : Sl w q b
  nil : q = none → c = 0
  le : b.length ≤ c
  new : 0 < b.length → ∀ d o, q = some ⟨d, o, none⟩ → base ≤ d ∧ d < w.heap.size
  free : ∀ j, j < b.length → ∀ d o, q = some ⟨d, o, none⟩ → w.frozen? ⟨d, o + j, none⟩ = false
section
variable {w w' : World} {base : Nat} {q : Option Addr} {c : Nat} {b : List (BitVec 8)}
theorem Fresh.keep (h : Fresh w base q c b) (hs : w.heap.size ≤ w'.heap.size) (k : ∀ d, base ≤ d → d < w.heap.size → w'.heap[d]? = w.heap[d]?) : Fresh w' base q c b := by
  have hk : ∀ d o, 0 < b.length → q = some ⟨d, o, none⟩ → w'.heap[d]? = w.heap[d]? := fun d o hb e => k d (h.new hb d o e).1 (h.new hb d o e).2
  refine ⟨fun j hj => ?_, h.nil, h.le, fun hb d o e => ⟨(h.new hb d o e).1, Nat.lt_of_lt_of_le (h.new hb d o e).2 hs⟩, fun j hj d o e => ?_⟩
  · obtain ⟨d, o, e, hx⟩ := h.sl j hj
    exact ⟨d, o, e, by rw [World.cell?_of_block (w := w) (hk d o (by omega) e)]; exact hx⟩
  · rw [World.frozen?_of_block (w := w) (hk d o (by omega) e)]
    exact h.free j hj d o e
theorem Fresh.lower (h : Fresh w base q c b) {b2 : Nat} (hb : b2 ≤ base) : Fresh w b2 q c b :=
  ⟨h.sl, h.nil, h.le, fun hl d o e => ⟨Nat.le_trans hb (h.new hl d o e).1, (h.new hl d o e).2⟩, h.free⟩
theorem Fresh.of_below (h : Fresh w base q c b) (k : Below w.heap.size w w') : Fresh w' base q c b := h.keep k.size fun d _ hd => k.block d hd
theorem Fresh.far (h : Fresh w base q c b) {y : Nat} (hy : y < base) (o : Nat) (v : Value) : Fresh (w.setCell ⟨y, o, none⟩ v) base q c b :=
  h.keep (by simp) fun d hd _ => Below.heap_setCell _ _ _ _ (by show d ≠ y; omega)
theorem Fresh.nothing (w : World) (base : Nat) : Fresh w base none 0 [] := ⟨Sl.nil _ _, fun _ => rfl, Nat.le_refl _, fun h => absurd h (Nat.lt_irrefl 0), fun j hj => absurd hj (Nat.not_lt_zero j)⟩
theorem OwnB.fresh {v : Value} (h : OwnB w base v b) : ∃ q c, v = .slice q b.length c ∧ Fresh w base q c b := by
  obtain ⟨q, c, rfl, hs, hp, hc⟩ := h.shape
  refine ⟨q, c, rfl, hs, hp, hc, fun _ d o e => h.lt d (by rw [e]; rfl), fun j hj d o e => ?_⟩
  rcases h.2 with ⟨hv, hl⟩ | ⟨g, cap, cur, hv, _, hg, _⟩
  · injection hv with e1 e2 e3
    rw [e1] at e; cases e
  · injection hv with e1 e2 e3
    rw [e1] at e
    injection e with e
    injection e with e4 e5
    subst e4
    simp only [World.frozen?, hg]
    simp
theorem Row.fresh {E : Nat} {T : TypeId} (h : Row w E T 32 (dgF b)) (hb : base ≤ E) (hl : b.length = 32) : Fresh w base (some ⟨E, 0, none⟩) 32 b :=
  ⟨Sl.row h (by omega) fun j hj => rfl, (fun e => by cases e), by omega, fun _ d o e => by injection e with e; injection e with e1 e2; subst e1; exact ⟨hb, h.lt⟩, fun j hj d o e => by injection e with e; injection e with e1 e2; subst e1; exact h.free _⟩
end
theorem strOf_size (b : List (BitVec 8)) : (strOf b).size = b.length := by simp [strOf, ByteArray.size]
end Go.Proofs.YtnmopjefjpifoaaGreatDoor
/- The reference's bytes of a record. -/
set_option maxRecDepth 100000
namespace Go.Proofs.YtnmopjefjpifoaaGreatDoor
open Go Go.RowKit

attribute [-go_sem] Sha.exec_store
theorem sl_arrO (E o : Nat) (w : World) : (slT 41 (.pointer (some ⟨E, o, none⟩)) none none none).run Tryz.prog w = .ok (.value (.slice (some ⟨E, o, none⟩) 32 32)) w := by
  first
  | kernel_rfl
  | (unfold slT; simp [go_sem, Instr.sliceAt])
attribute [local go_sem ↓] exec_boxA exec_loadA exec_indexA exec_allocA exec_storeA exec_buildA exec_eqlA exec_neqA exec_boxV exec_loadV exec_indexV exec_allocV exec_storeV exec_buildV exec_eqlV exec_neqV
attribute [local go_sem] boxA indexA storeNewA buildA eqlA neqA boxV indexV storeNewV buildV eqlV neqV

attribute [local go_sem ↓] exec_boxM exec_load32 exec_alloc32 exec_store32F exec_slice exec_bs
attribute [local go_sem] boxM bsb1 sl_arrO st_dig
end Go.Proofs.YtnmopjefjpifoaaGreatDoor
/- What record.Parse tells of the bytes of a record. -/
set_option maxRecDepth 100000
namespace Go.Proofs.YtnmopjefjpifoaaGreatDoor
open Go Go.RowKit
attribute [-go_sem] Sha.exec_store

/-- The record that the program keeps of a record, its blocks' digests gone if it is deleted. -/
def Rc.cut (r : Rc) : Rc := if r.dead then { r with whole := z32, q := none, n := 0, cap := 0 } else r
def Rc.text (r : Rc) (ds : List By) : RcT := ⟨pB r.path, r.size.toNat, r.time.toNat, r.chg.toNat, r.ver, r.dead, r.whole, ds⟩
theorem text_W {w : World} {r : Rc} {ds : List By} (h : DgAt w r ds) (hp : r.path.length ≤ 100) (hn : r.n ≤ 64) (hs : 0 ≤ r.size ∧ r.size < 9223372036854775808) (ht : 0 ≤ r.time ∧ r.time < 9223372036854775808) (hc : 0 ≤ r.chg ∧ r.chg < 9223372036854775808) (hf : ∀ i, i < 16 → 0 ≤ r.ver i ∧ r.ver i ≤ 1099511627776) : RcW (r.text ds) :=
  ⟨by show (pB r.path).length ≤ 100; rw [pB_len]; exact hp, by show r.size.toNat < _; omega, by show r.time.toNat < _; omega, by show r.chg.toNat < _; omega, hf, fun _ => h.whole, fun _ => by have := h.n; show ds.length ≤ 64; omega, fun _ => h.each⟩
theorem DgAt.ver {w : World} {r : Rc} {ds : List By} {g : Nat → Int} (h : DgAt w { r with ver := g } ds) : DgAt w r ds := ⟨h.n, h.lie, h.each, h.nil, h.le, h.whole⟩
theorem encRc_len {r : RcT} (h : RcW r) : (encRc r).length ≤ 9000 ∧ 32 ≤ (encRc r).length := by
  obtain ⟨h1, h2, h3, h4, h5, h6, h7, h8⟩ := h
  obtain ⟨path, size, time, chg, ver, dead, whole, ds⟩ := r
  dsimp only at *
  have p9 : (128 : Nat) ^ 9 = 9223372036854775808 := by decide
  have k1 := enc7_len 8 path.length (by rw [p9]; omega)
  have k2 := enc7_len 8 size (by rw [p9]; exact h2)
  have k3 := enc7_len 8 time (by rw [p9]; exact h3)
  have k4 := enc7_len 8 chg (by rw [p9]; exact h4)
  have k5 := encV_len h5
  unfold encRc bodyRc
  dsimp only
  cases dead with
  | true =>
    rw [if_pos rfl]
    simp only [List.length_append, List.length_cons, List.length_nil, digL_len]
    omega
  | false =>
    rw [if_neg (by simp)]
    have k6 := h6 rfl
    have k7 := h7 rfl
    have k8 := enc7_len 8 ds.length (by rw [p9]; omega)
    simp only [List.length_append, List.length_cons, List.length_nil, digL_len, flat_len32 (h8 rfl)]
    omega
end Go.Proofs.YtnmopjefjpifoaaGreatDoor
/- Plain facts of records that are in order. -/
set_option maxRecDepth 100000
namespace Go.Proofs.YtnmopjefjpifoaaGreatDoor
open Go Go.RowKit
attribute [-go_sem] Sha.exec_store

theorem kind3_len {p : S8} (h : kindL p = 3) : p.length ≤ 100 := by
  unfold kindL at h
  split at h
  · rename_i hg
    unfold goodL at hg
    simp only [Bool.and_eq_true, decide_eq_true_eq] at hg
    exact hg.1
  · cases h
/-- What holds of a record that is in order. -/
theorem goodR_facts {r : Rc} (h : goodR r = true) : r.path.length ≤ 100 ∧ (0 ≤ r.size ∧ r.size ≤ 16384) ∧ 0 ≤ r.time ∧ 0 ≤ r.chg ∧ gdV r.ver = true ∧ r.n = nblk r.size.toNat ∧ (r.dead = true → r.size = 0 ∧ deq r.whole z32 = true) := by
  unfold goodR at h
  simp only [Bool.and_eq_true, decide_eq_true_eq, Bool.or_eq_true] at h
  obtain ⟨h1, h2, h3⟩ := h
  obtain ⟨k1, k2, k3⟩ := rfE_zero h1
  have k4 := okS_iff.1 k2
  unfold okV at k3
  simp only [Bool.and_eq_true] at k3
  refine ⟨kind3_len k1, ⟨k4.1, k4.2.1⟩, k4.2.2.1, k4.2.2.2, k3.1, h2, fun hd => ?_⟩
  rcases h3 with h4 | h4
  · rw [hd] at h4; cases h4
  · exact h4
theorem goodR_n {r : Rc} (h : goodR r = true) : r.n ≤ 64 := by
  obtain ⟨-, h2, -, -, -, h6, -⟩ := goodR_facts h
  rw [h6]
  unfold nblk
  omega
end Go.Proofs.YtnmopjefjpifoaaGreatDoor
/- (*archive.Archive).Get, Copy. -/
set_option maxRecDepth 100000
namespace Go.Proofs.YtnmopjefjpifoaaGreatDoor
open Go Go.RowKit

attribute [-go_sem] Sha.exec_store
def findA (es : List Ent) (p : S8) : Option Ent := es.find? fun e => e.1.path == p
theorem findA_V (es : List Ent) (p : S8) : findV (es.map entA) p = (findA es p).map fun e => rcV e.1 := by
  unfold findV findA
  induction es with
  | nil => rfl
  | cons e l ih =>
    rw [List.map_cons, List.find?_cons, List.find?_cons]
    show Option.map _ (match (e.1.path == p) with | true => some (entA e) | false => _) = _
    cases h : (e.1.path == p)
    · exact ih
    · rfl
theorem findA_in {es : List Ent} {p : S8} {e : Ent} (h : findA es p = some e) : e ∈ es ∧ e.1.path = p := by
  unfold findA at h
  exact ⟨List.mem_of_find?_eq_some h, by simpa using List.find?_some h⟩
theorem zeroRc (w : World) : (zeroValue 44).run Tryz.prog w = .ok (rcV rc0) w := by
  have h := (zero_of_info rtP.info).1 w
  rw [rz] at h
  unfold rcV
  exact h
section
variable {w : World} {b mb : Nat} {gen : Int} {es : List Ent}
attribute [local go_sem ↓] exec_boxP exec_allocP exec_storeP exec_loadP
attribute [local go_sem] boxP
set_option maxRecDepth 100000 in
set_option maxHeartbeats 4000000 in
theorem copy_any (h : ArAt w b mb gen es) : Calls Tryz.prog 13 #[.pointer (some ⟨b, 0, none⟩)] w fun e w' => ∃ b2 m2, e = .returned (.pointer (some ⟨b2, 0, none⟩)) ∧ ArAt w' b2 m2 gen es ∧ Below w.heap.size w w' ∧ w.heap.size ≤ b2 ∧ w.heap.size ≤ m2 := by
  obtain ⟨ms, clock, hm⟩ := h.map.is
  have h0 := h.of_below (Below.refl _ _).drew
  have hm0 : w.drew.heap[mb]? = some (.map ms clock) := hm
  have hcp := h0.map.copied ms clock hm0
  have z1 : (w.drew.alloc (.map ms clock)).heap.size = w.heap.size + 1 := World.size_alloc _ _
  have hB1 : Below w.heap.size w (w.drew.alloc (.map ms clock)) := (Below.refl _ _).drew.alloc (Nat.le_refl _) _
  have HX1 := Lib.hid hB1
  have HX2 := Lib.hid (show Below w.heap.size w ((w.drew.alloc (.map ms clock)).alloc (.cells #[.int .i64 gen, .map (some w.heap.size)] 120)) from hB1.alloc hB1.size _)
  have HFIN := Lib.hid (show ArAt ((w.drew.alloc (.map ms clock)).alloc (.cells #[.int .i64 gen, .map (some w.heap.size)] 120)) (w.heap.size + 1) w.heap.size gen es from by
    have hb := World.alloc_heap_new (w.drew.alloc (.map ms clock)) (.cells #[.int .i64 gen, .map (some w.heap.size)] 120)
    rw [z1] at hb
    have hBB : Below (w.drew.alloc (.map ms clock)).heap.size (w.drew.alloc (.map ms clock)) ((w.drew.alloc (.map ms clock)).alloc (.cells #[.int .i64 gen, .map (some w.heap.size)] 120)) := (Below.refl _ _).alloc (Nat.le_refl _) _
    exact ⟨hb, hcp.of_below hBB, fun e he => (h.dg e he).of_below (hB1.alloc hB1.size _), h.good, h.inn, h.few⟩)
  have HNE := Lib.hid (show w.heap.size ≤ w.heap.size + 1 ∧ w.heap.size ≤ w.heap.size by omega)
  have HCL := Lib.hid (mapCloneA_any mb ms clock w.drew hm0)
  have HS := Lib.hid (fun (u : World) (hu : Below w.heap.size w u) => (show u.cell? ⟨b, 0, none⟩ = some (.int .i64 gen) ∧ u.cell? ⟨b, 1, none⟩ = some (.map (some mb)) ∧ Below w.heap.size w u from ⟨by rw [hu.cell (by exact h.lt)]; exact h.cell0, by rw [hu.cell (by exact h.lt)]; exact h.cell1, hu⟩))
  clear h h0 hm hm0 hcp z1 hB1
  go_enter Tryz.func13, Tryz.ntmps13
  go_wp2
  refine wp_region_noPanic ?_
  refine wp_region_held_drew (S := (fun u : World => u.cell? ⟨b, 0, none⟩ = some (.int .i64 gen) ∧ u.cell? ⟨b, 1, none⟩ = some (.map (some mb)) ∧ Below w.heap.size w u)) (by kernel_rfl) (HS.out _ (Below.refl _ _).drew) (fun hHeld => ?_)
  refine wpAnyH_take (i := 0) (v := ?_) (by simp only [List.getElem?_toArray, List.getElem?_cons_succ, List.getElem?_cons_zero]; exact rfl) (by kernel_rfl) (by kernel_rfl) (by kernel_rfl) (fun _ _ _ h => h) (Or.inl ⟨by rfl, ?_⟩) (by assumption) ?_
  rotate_left 1
  · (intro w hSw; (try dsimp only at hSw); go_simp; try with_reducible rfl)
  try simp only [Act.put, List.setIfInBounds_toArray, List.set_cons_zero, List.set_cons_succ]
  refine wpAnyH_take (i := 1) (v := ?_) (by simp only [List.getElem?_toArray, List.getElem?_cons_succ, List.getElem?_cons_zero]; exact rfl) (by kernel_rfl) (by kernel_rfl) (by kernel_rfl) (fun _ _ _ h => h) (Or.inl ⟨by rfl, ?_⟩) (by assumption) ?_
  rotate_left 1
  · (intro w hSw; (try dsimp only at hSw); go_simp; try with_reducible rfl)
  try simp only [Act.put, List.setIfInBounds_toArray, List.set_cons_zero, List.set_cons_succ]
  refine wpAnyH_take (i := 2) (v := ?_) (by simp only [List.getElem?_toArray, List.getElem?_cons_succ, List.getElem?_cons_zero]; exact rfl) (by kernel_rfl) (by kernel_rfl) (by kernel_rfl) (fun _ _ _ h => h) (Or.inl ⟨by rfl, ?_⟩) (by assumption) ?_
  rotate_left 1
  · (intro w hSw; (try dsimp only at hSw); go_simp; try with_reducible rfl)
  try simp only [Act.put, List.setIfInBounds_toArray, List.set_cons_zero, List.set_cons_succ]
  refine wpAnyH_take (i := 3) (v := ?_) (by simp only [List.getElem?_toArray, List.getElem?_cons_succ, List.getElem?_cons_zero]; exact rfl) (by kernel_rfl) (by kernel_rfl) (by kernel_rfl) (fun _ _ _ h => h) (Or.inl ⟨by rfl, ?_⟩) (by assumption) ?_
  rotate_left 1
  · (intro w hSw; (try dsimp only at hSw); go_simp; try with_reducible rfl)
  try simp only [Act.put, List.setIfInBounds_toArray, List.set_cons_zero, List.set_cons_succ]
  refine wpAnyH_take (i := 4) (v := ?_) (by simp only [List.getElem?_toArray, List.getElem?_cons_succ, List.getElem?_cons_zero]; exact rfl) (by kernel_rfl) (by kernel_rfl) (by kernel_rfl) (fun _ _ _ h => h) (Or.inl ⟨by rfl, ?_⟩) (by assumption) ?_
  rotate_left 1
  · (intro w hSw; (try dsimp only at hSw); go_simp; try with_reducible rfl)
  try simp only [Act.put, List.setIfInBounds_toArray, List.set_cons_zero, List.set_cons_succ]
  refine wpAnyH_take (i := 5) (v := ?_) (by simp only [List.getElem?_toArray, List.getElem?_cons_succ, List.getElem?_cons_zero]; exact rfl) (by kernel_rfl) (by kernel_rfl) (by kernel_rfl) (fun _ _ _ h => h) (Or.inl ⟨by rfl, ?_⟩) (by assumption) ?_
  rotate_left 1
  · (intro w hSw; (try dsimp only at hSw); go_simp; try with_reducible rfl)
  try simp only [Act.put, List.setIfInBounds_toArray, List.set_cons_zero, List.set_cons_succ]
  refine wpAnyH_take (i := 6) (v := ?_) (by simp only [List.getElem?_toArray, List.getElem?_cons_succ, List.getElem?_cons_zero]; exact rfl) (by kernel_rfl) (by kernel_rfl) (by kernel_rfl) (fun _ _ _ h => h) (Or.inl ⟨by rfl, ?_⟩) (by assumption) ?_
  rotate_left 1
  · (intro w hSw; (try dsimp only at hSw); go_simp; try with_reducible rfl)
  try simp only [Act.put, List.setIfInBounds_toArray, List.set_cons_zero, List.set_cons_succ]
  refine wpAnyH_take (i := 7) (v := ?_) (by simp only [List.getElem?_toArray, List.getElem?_cons_succ, List.getElem?_cons_zero]; exact rfl) (by kernel_rfl) (by kernel_rfl) (by kernel_rfl) (fun _ _ _ h => h) (Or.inl ⟨by rfl, ?_⟩) (by assumption) ?_
  rotate_left 1
  · (intro w hSw; (try dsimp only at hSw); go_simp; try with_reducible rfl)
  try simp only [Act.put, List.setIfInBounds_toArray, List.set_cons_zero, List.set_cons_succ]
  refine wpAnyH_ready (rs := [8]) (by kernel_rfl) (by simp) ?_
  refine (AllReadyH.cons (by simp only [List.getElem?_toArray, List.getElem?_cons_succ, List.getElem?_cons_zero]; exact rfl) (fun K hK => ?_) AllReadyH.nil)
  go_simp
  refine HCL.out.mono ?_
  rintro e v2 ⟨rfl, rfl⟩
  refine hK.out _ _ (HS.out _ (HX1.out)) (fun hHeld => ?_)
  clear hK K
  try simp only [Act.put, List.setIfInBounds_toArray, List.set_cons_zero, List.set_cons_succ]
  refine wpAnyH_take (i := 9) (v := ?_) (by simp only [List.getElem?_toArray, List.getElem?_cons_succ, List.getElem?_cons_zero]; exact rfl) (by kernel_rfl) (by kernel_rfl) (by kernel_rfl) (fun _ _ _ h => h) (Or.inl ⟨by rfl, ?_⟩) (by assumption) ?_
  rotate_left 1
  · (intro w hSw; (try dsimp only at hSw); go_simp; try with_reducible rfl)
  try simp only [Act.put, List.setIfInBounds_toArray, List.set_cons_zero, List.set_cons_succ]
  refine wpAnyH_ready (rs := [10]) (by kernel_rfl) (by simp) ?_
  refine (AllReadyH.cons (by simp only [List.getElem?_toArray, List.getElem?_cons_succ, List.getElem?_cons_zero]; exact rfl) (fun K hK => ?_) AllReadyH.nil)
  go_simp
  refine hK.out _ _ (HS.out _ (HX2.out)) (fun hHeld => ?_)
  clear hK K
  try simp only [Act.put, List.setIfInBounds_toArray, List.set_cons_zero, List.set_cons_succ]
  refine wpAnyH_take (i := 11) (v := ?_) (by simp only [List.getElem?_toArray, List.getElem?_cons_succ, List.getElem?_cons_zero]; exact rfl) (by kernel_rfl) (by kernel_rfl) (by kernel_rfl) (fun _ _ _ h => h) (Or.inl ⟨by rfl, ?_⟩) (by assumption) ?_
  rotate_left 1
  · (intro w hSw; (try dsimp only at hSw); go_simp; try with_reducible rfl)
  try simp only [Act.put, List.setIfInBounds_toArray, List.set_cons_zero, List.set_cons_succ]
  refine wpAnyH_done (by kernel_rfl) ?_ _
  refine NoPanic.normal ?_
  clear hHeld
  go_wp2
  go_ret
  exact ⟨_, _, rfl, HFIN.out, HX2.out, HNE.out⟩
end
end Go.Proofs.YtnmopjefjpifoaaGreatDoor
