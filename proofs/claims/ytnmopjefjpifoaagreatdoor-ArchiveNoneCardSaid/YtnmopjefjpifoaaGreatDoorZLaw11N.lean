import Derived.Test.YtnmopjefjpifoaaGreatDoorLift
import Derived.Lib.LaidTab
import Derived.ChangeArms
import Derived.Test.YtnmopjefjpifoaaGreatDoorKN13
import Derived.Test.YtnmopjefjpifoaaGreatDoorLiftB6
import Derived.Test.YtnmopjefjpifoaaGreatDoorKN2
import Derived.Lib.SlBytesConst
import Derived.Test.YtnmopjefjpifoaaGreatDoorKN10
import Derived.BigQuiet
import Derived.Test.YtnmopjefjpifoaaGreatDoorKN6
import Derived.Lib.Walk
import Derived.Deep.RegionHeld3
/- Tables of strings, as a row lists them; an argument that is an array of nine small numbers. -/
set_option linter.unusedSimpArgs false
set_option maxRecDepth 100000
set_option linter.unusedVariables false
namespace Go.Proofs.YtnmopjefjpifoaaGreatDoor
open Go Go.ChangeShapes Go.WideShapes Go.ChangeAt Go.RowKit

/-- An array of strings that reads as these holds them. -/
theorem cells_of_strs13 {H : Type} {enc : TypeId × Value → H} {P : Program} {w : World} {base : Nat} {sp : Nat → Bool} {held : Bool} {fuel : Nat} {t e : TypeId} {n : Nat} {cs : List Value} {zs : List (List UInt8)} {p : List MemPlace}
    (ht : P.underlying t = some (.array n e)) (he : P.underlying e = some .string) (hce : P.cellsOf e = 1) (hct : P.cellsOf t = n)
    (h : DataW.trod enc P w base sp held fuel t cs = some (.agg (zs.map fun z => .lit (.string z)), p)) : cs = zs.map fun z => Value.string ⟨z.toArray⟩ := by
  cases fuel with
  | zero => simp [DataW.trod] at h
  | succ fuel =>
    simp only [DataW.trod, ht, hce, hct, Nat.mul_one] at h
    split at h
    · rename_i hl
      obtain ⟨xs, hm, hx⟩ := Option.map_eq_some_iff.1 h
      have hxs : xs.map (·.1) = zs.map fun z => (DataW.lit (.string z) : DataW H) := by
        have := congrArg Prod.fst hx
        simpa using this
      have hxl : xs.length = n := by simpa using Lib.mapM_length hm
      have hzl : zs.length = n := by
        have := congrArg List.length hxs
        simp at this
        omega
      apply List.ext_getElem?
      intro i
      by_cases hi : i < n
      · obtain ⟨b, hb, hf⟩ := Lib.mapM_at hm i i (by simp [hi])
        obtain ⟨s, hc, hbb⟩ := DataW.trod_string he hf
        have hb1 : b.1 = .lit (.string s.data.toList) := by rw [hbb.1]
        have h1 : cs[i]? = some (.string s) := by
          have := congrArg (·[0]?) hc
          simpa [List.getElem?_take, List.getElem?_drop] using this
        have h2 : (xs.map (·.1))[i]? = some (DataW.lit (.string s.data.toList) : DataW H) := by simp [hb, hb1]
        rw [hxs] at h2
        simp only [List.getElem?_map, Option.map_eq_some_iff, DataW.lit.injEq, Lit.string.injEq] at h2
        obtain ⟨z', hz', e2⟩ := h2
        rw [h1, List.getElem?_map, hz', e2]
        rfl
      · rw [List.getElem?_eq_none (by omega), List.getElem?_eq_none (by simp; omega)]
    · cases h
/-- A table of strings that stands first on the list. -/
theorem strs_of_head13 {P : Program} {W : World} {name : String} {zs : List (List UInt8)} {rest : List (String × DataW Unit)} {g : Nat} {t e : TypeId} {n : Nat}
    (hg : P.globalNamed name = some g) (hty : (P.globals[g]?).map (·.type) = some t) (ht : P.underlying t = some (.array n e)) (he : P.underlying e = some .string) (hce : P.cellsOf e = 1) (hct : P.cellsOf t = n)
    (h : laidMet P ((name, .agg (zs.map fun z => .lit (.string z))) :: rest) W) (i : Nat) (hi : i < zs.length) : W.cell? ⟨g, i, none⟩ = some (.string ⟨(zs.getD i []).toArray⟩) := by
  obtain ⟨ps, ⟨g', t', cs, fuel, p, q, hg', ht', hvar, hd, _, _⟩, _⟩ := h
  obtain rfl := Option.some.inj (hg.symm.trans hg')
  obtain rfl := Option.some.inj (hty.symm.trans ht')
  have hc := cells_of_strs13 ht he hce hct hd
  have h2 := World.var?_cell hg hvar i
  rw [h2]
  have e3 : cs[i]? = (zs.map fun z => Value.string ⟨z.toArray⟩)[i]? := by rw [← hc]; simp
  rw [e3]
  simp [List.getD_eq_getElem?_getD, hi]
def nmL : List (List UInt8) := [[110, 111, 110, 101], [110, 101, 119], [109, 105, 115, 115, 105, 110, 103], [99, 108, 101, 97, 110], [114, 111, 116], [101, 100, 105, 116], [116, 111, 117, 99, 104, 101, 100], [103, 111, 110, 101], [114, 101, 98, 111, 114, 110]]
theorem gNm : Tryz.prog.globalNamed "darner/judge.names" = some 3 := by kernel_rfl
theorem tNm : (Tryz.prog.globals[3]?).map (·.type) = some 240 := by kernel_rfl
theorem uNm : Tryz.prog.underlying 240 = some (.array 9 9) := by kernel_rfl
theorem uNs : Tryz.prog.underlying 9 = some .string := by kernel_rfl
theorem cNs : Tryz.prog.cellsOf 9 = 1 := by kernel_rfl
theorem cNm : Tryz.prog.cellsOf 240 = 9 := by kernel_rfl
end Go.Proofs.YtnmopjefjpifoaaGreatDoor
/- Merged texts: Par11, Kwn11, LiftN11, Dsx8, Lod11, Awp11, Rfu11, Sav11, BEq, Ldt11, Awk11. -/
set_option linter.unusedSimpArgs false
set_option linter.unusedVariables false
/- archive.Parse. -/
set_option maxRecDepth 100000
namespace Go.Proofs.YtnmopjefjpifoaaGreatDoor
open Go Go.RowKit

attribute [-go_sem] Sha.exec_store
/-- The code that Parse tells. -/
def parseA (l : By) : Nat := match takeAr l with
  | .error c => c
  | .ok ((_, bs, d), rest) => if rest = [] then (if deq (digL (l.take (l.length - 32))) d then recsF bs true [] else 11) else 6
theorem nextI_bytes {l : By} {most : Int} {x : It} {k : Nat} (h : nextI l 1 most = (x, k, 0)) : (x.b.length : Int) ≤ most := by
  rw [nextI_take (by decide) (by decide)] at h
  split at h
  · rename_i h1; injection h with _ h; injection h with _ h; exact absurd h h1
  · rename_i h1
    rw [if_neg (by decide)] at h
    split at h
    · injection h with _ h; injection h with _ h; cases h
    · have h0 : (takeI l most).2.2 = 0 := by omega
      have := takeI_le (l := l) (n := (takeI l most).1) (k := (takeI l most).2.1) (most := most) (by rw [← h0])
      injection h with h1 _
      rw [← h1]
      dsimp only
      rw [List.length_take]
      have : (min (takeI l most).1 (l.drop (takeI l most).2.1).length : Nat) ≤ (takeI l most).1 := Nat.min_le_left _ _
      omega
theorem takeBs_facts : ∀ {k : Nat} {l : By} {bs : List By} {rest : By}, takeBs k l = .ok (bs, rest) → bs.length = k ∧ (∀ b ∈ bs, b.length ≤ 4096) ∧ rest.length ≤ l.length
  | 0, l, bs, rest, h => by
    rw [takeBs] at h
    injection h with h
    injection h with h1 h2
    subst h1 h2
    exact ⟨rfl, (fun b hb => by cases hb), Nat.le_refl _⟩
  | k + 1, l, bs, rest, h => by
    rw [takeBs] at h
    obtain ⟨h0, h⟩ := stp_inv h
    cases hT : takeBs k (l.drop (nextI l 1 4096).2.1) with
    | error c => rw [hT] at h; cases h
    | ok y =>
      obtain ⟨y1, y2⟩ := y
      rw [hT] at h
      simp only [Except.map] at h
      injection h with h
      injection h with h1 h2
      subst h1 h2
      obtain ⟨i1, i2, i3⟩ := takeBs_facts hT
      refine ⟨by rw [List.length_cons, i1], fun b hb => ?_, ?_⟩
      · rcases List.mem_cons.1 hb with rfl | hb
        · have := nextI_bytes (l := l) (most := 4096) (x := (nextI l 1 4096).1) (k := (nextI l 1 4096).2.1) (by rw [← h0])
          omega
        · exact i2 b hb
      · rw [List.length_drop] at i3; omega
theorem takeAr_facts {l : By} {g : Nat} {bs : List By} {d rest : By} (h : takeAr l = .ok ((g, bs, d), rest)) : (g : Int) < 9223372036854775808 ∧ bs.length ≤ 128 ∧ (∀ b ∈ bs, b.length ≤ 4096) ∧ 32 ≤ l.length := by
  unfold takeAr at h
  obtain ⟨h0, h⟩ := stp_inv h
  obtain ⟨h1, h⟩ := stp_inv h
  have e0 := takeI_le (l := l) (most := maxT) (n := _) (k := _) (by rw [← h0])
  have e1 := takeI_le (l := l.drop (takeI l maxT).2.1) (most := 128) (n := _) (k := _) (by rw [← h1])
  split at h
  · cases h
  · rename_i bs' l3 hT
    obtain ⟨i1, i2, i3⟩ := takeBs_facts hT
    obtain ⟨h2, h⟩ := stp_inv h
    have h3 := (nextI_code (l := l3) (most := 0) (x := (nextI l3 4 0).1) (k := (nextI l3 4 0).2.1) (c := (nextI l3 4 0).2.2) rfl).1 h2
    injection h with h
    injection h with h4 h5
    injection h4 with h6 h7
    injection h7 with h8 h9
    subst h6 h8
    unfold maxT at e0
    refine ⟨by unfold maxT; omega, by omega, i2, ?_⟩
    simp only [List.length_drop] at i3
    omega
theorem HdL.lower11 {w : World} {N M : Nat} {v : Value} {bs : List By} (h : HdL w N v bs) (hM : M ≤ N) : HdL w M v bs := by
  obtain ⟨cs, h1, h2⟩ := h
  refine ⟨cs, own_lower h1 hM, fun i hi => ?_⟩
  obtain ⟨p, cap, e1, e2, e3, e5, e4⟩ := h2 i hi
  exact ⟨p, cap, e1, e2, e3, e5, fun c o e => ⟨Nat.le_trans hM (e4 c o e).1, (e4 c o e).2⟩⟩
theorem enters_par : ∀ args w, (callFunc 64 args).run Tryz.prog w = .ok (.enter 64 args) w := enters_of Tryz.func64 (by kernel_rfl) rfl
attribute [local go_sem] mkFnR
/-- What Read leaves of Parse's variables. -/
def ParJ (l : By) (w : World) (M : Nat) (c : Nat) (u : World) : Prop :=
  Below M w u ∧ M + 6 ≤ u.heap.size ∧ match takeAr l with
    | .error c' => c = c' ∧ c ≠ 0
    | .ok ((g, bs, d), rest) => c = (if rest = [] then 0 else 6) ∧ u.cell? ⟨M, 0, none⟩ = some (.int .i64 (g : Int)) ∧ (∃ v, u.cell? ⟨M + 1, 0, none⟩ = some v ∧ HdL u (M + 6) v bs) ∧ Row u (M + 2) 41 32 (dgF d) ∧ d.length = 32
theorem parJ_stay (l : By) (w : World) (M : Nat) (c : Nat) (x y : World) (h : ParJ l w M c x) (hB : Below (M + 3) x y) (hk : ∀ k, k < x.heap.size → k ≠ M + 3 → k ≠ M + 3 + 1 → y.heap[k]? = x.heap[k]?) : ParJ l w M c y := by
  obtain ⟨h1, h2, h4⟩ := h
  refine ⟨h1.trans (hB.mono (by omega)), Nat.le_trans h2 hB.size, ?_⟩
  cases hT : takeAr l with
  | error c' => rw [hT] at h4; exact h4
  | ok z =>
    obtain ⟨⟨g, bs, d⟩, rest⟩ := z
    rw [hT] at h4
    dsimp only at h4 ⊢
    obtain ⟨a1, a2, ⟨v, a3, a4⟩, a5, a6⟩ := h4
    exact ⟨a1, by rw [hB.cell (by show M < M + 3; omega)]; exact a2, ⟨v, by rw [hB.cell (by show M + 1 < M + 3; omega)]; exact a3, a4.keep hB.size (fun c h3 h4 => hk c h4 (by omega) (by omega))⟩, a5.below hB (by omega), a6⟩
attribute [local go_sem ↓] exec_load32 exec_store32F exec_bs exec_alloc32 exec_eqlD exec_neqD
attribute [local go_sem] bsSl eqlD neqD
def ParOk (w : World) (l : By) (e : Ending) (w' : World) : Prop := ∃ (b mb g : Nat) (bs : List By) (d : By) (es : List Ent), e = .returned (.tuple #[.pointer (some ⟨b, 0, none⟩), .int .i64 0]) ∧ ArAt w' b mb (g : Int) es ∧ takeAr l = .ok ((g, bs, d), []) ∧ es.length ≤ bs.length ∧ w.heap.size ≤ b
/-- What Parse gives. -/
def ParPost (w : World) (l : By) (e : Ending) (w' : World) : Prop := Below w.heap.size w w' ∧
  ((parseA l ≠ 0 ∧ e = .returned (.tuple #[.pointer none, .int .i64 ((parseA l : Nat) : Int)])) ∨
    (parseA l = 0 ∧ ParOk w l e w'))
set_option maxRecDepth 100000 in
set_option maxHeartbeats 8000000 in
theorem parseA_any (l : By) (q : Option Addr) (n cap : Nat) (w : World) (hl : l.length = n) (hs : Sl w q l) (hq : q = none → cap = 0) (hc : n ≤ cap) (hn : n < 1000000) (hTb : Tb w) :
    Calls Tryz.prog 23 #[.slice q n cap] w (ParPost w l) := by
  unfold ParPost
  obtain ⟨PC, hPC⟩ : ∃ PC, parseA l = PC := ⟨_, rfl⟩
  have HPE := Lib.hid hPC
  rw [hPC]
  clear hPC
  obtain ⟨M, hM⟩ : ∃ M, w.heap.size = M := ⟨_, rfl⟩
  obtain ⟨W1, hW1⟩ : ∃ W, w.alloc (.cells #[.int .i64 0] 3) = W := ⟨_, rfl⟩
  obtain ⟨W2, hW2⟩ : ∃ W, W1.alloc (.cells #[.slice none 0 0] 73) = W := ⟨_, rfl⟩
  obtain ⟨W3, hW3⟩ : ∃ W, W2.alloc (.cells (zb 32) 41) = W := ⟨_, rfl⟩
  have hB1 : Below w.heap.size w W1 := by rw [← hW1]; exact below_newR _ _
  have hB2 : Below W1.heap.size W1 W2 := by rw [← hW2]; exact below_newR _ _
  have hB3 : Below W2.heap.size W2 W3 := by rw [← hW3]; exact below_newR _ _
  have z1 : W1.heap.size = M + 1 := by rw [← hW1]; simp [hM]
  have z2 : W2.heap.size = M + 2 := by rw [← hW2]; simp [z1]
  have z3 : W3.heap.size = M + 3 := by rw [← hW3]; simp [z2]
  have k4 : W1.cell? ⟨M, 0, none⟩ = some (.int .i64 0) ∧ W1.frozen? ⟨M, 0, none⟩ = false := by rw [← hW1, ← hM]; exact new_cZ w _ _
  have k5 : W2.cell? ⟨M + 1, 0, none⟩ = some (.slice none 0 0) ∧ W2.frozen? ⟨M + 1, 0, none⟩ = false := by rw [← hW2, ← z1]; exact new_cZ W1 _ _
  have hB23 : Below (M + 1) W1 W3 := by rw [← z1]; exact hB2.trans (hB3.mono hB2.size)
  have hB33 : Below (M + 2) W2 W3 := by rw [← z2]; exact hB3
  have hR5 : Row W3 (M + 2) 41 32 (fun _ => B 0#8) := by
    have e0 : zb 32 = tab 32 (fun _ => B 0#8) := by unfold zb; exact tab_congr fun j hj => by rw [B_eq']
    rw [← z2, ← hW3, e0]; exact Row.new _ _ _ _
  have hBW : Below w.heap.size w W3 := hB1.trans ((hB2.trans (hB3.mono hB2.size)).mono hB1.size)
  have hs3 := hs.of_below hBW
  have hpp : 0 < l.length → ∀ c o, q = some ⟨c, o, none⟩ → c < M := fun h0 c o e => by
    obtain ⟨c', o', e', hx⟩ := hs 0 h0
    rw [e] at e'
    injection e' with e'
    injection e' with e1 _
    subst e1
    rw [← hM]
    exact World.block_lt_of_cell? w _ hx
  have hP3 : ∀ (a : Addr) (u : World), Below W3.heap.size W3 u → PSt W3.heap.size u a M (M + 1) (M + 2) 0 (.slice none 0 0) (fun _ => B 0#8) u := fun a u hb => by
    rw [z3] at hb
    have b1 : Below (M + 1) W1 u := hB23.trans (hb.mono (by omega))
    have b2 : Below (M + 2) W2 u := hB33.trans (hb.mono (by omega))
    exact ⟨by rw [b1.cell (by show M < M + 1; omega)]; exact k4.1, by rw [World.frozen?_of_block (w := W1) (b1.block M (by omega))]; exact k4.2, by rw [b2.cell (by show M + 1 < M + 2; omega)]; exact k5.1, by rw [World.frozen?_of_block (w := W2) (b2.block (M + 1) (by omega))]; exact k5.2, hR5.below hb (by omega), Loc.refl _ _ _, fun M' _ _ _ _ => Below.refl _ _⟩
  have HRD := Lib.hid (readJ_any l q n cap 64 #[.pointer (some ⟨M, 0, none⟩), .pointer (some ⟨M + 1, 0, none⟩), .pointer (some ⟨M + 2, 0, none⟩)] W3 (ParJ l w M) hl hs3 hq hc hn enters_par
    (fun c x y h k1 k2 => parJ_stay l w M c x y h (by rw [← z3]; exact k1) (by rw [← z3]; exact k2))
    (fun a u hb hsz hr => (pas_in q W3.heap.size u a l M (M + 1) (M + 2) _ ⟨by omega, by omega, by omega, (rdP_lie _ _ _ _ _ hr).1, (rdP_lie _ _ _ _ _ hr).2, by omega, by omega, by omega⟩ hr (hP3 a u hb) (fun h0 c o e => by have := hpp h0 c o e; omega)).mono fun e u2 ⟨k1, k2, k3⟩ => by
      refine ⟨k1, ?_⟩
      have hj1 : Below M w u2 := by
        have h1 := k2 M (by omega) (by omega) (by omega) (by omega)
        rw [hM] at hBW
        exact hBW.trans ((hb.mono (by omega)).trans h1)
      have hj2 : M + 6 ≤ u2.heap.size := by have := k1.size; omega
      unfold ParJ
      cases hT : takeAr l with
      | error c' =>
        rw [hT] at k3
        exact .inr ⟨c', k3.2, hj1, hj2, rfl, k3.1⟩
      | ok z =>
        obtain ⟨⟨g, bs, d⟩, rest⟩ := z
        rw [hT] at k3
        dsimp only at k3 ⊢
        obtain ⟨a1, a2, a3, ⟨v, a4, a5⟩, a6, a7⟩ := k3
        refine .inl ⟨rest, a1, a2, hj1, hj2, rfl, a3, ⟨v, a4, ?_⟩, a6, a7⟩
        obtain ⟨cs, hh⟩ := a5
        exact HdL.lower11 ⟨cs, hh⟩ (by omega)))
  have HSL := Lib.hid (And.intro hs (And.intro hl (And.intro hTb hM)))
  have HZ := Lib.hid (And.intro z1 z2)
  clear hB1 hB2 hB3 z1 z2 z3 k4 k5 hB23 hB33 hR5 hBW hs3 hpp hP3 hs hl hq hTb
  go_enter Tryz.func23, Tryz.ntmps23
  try rw [hM]
  go_wp2_with fail
  clear hW1 hW2 hW3
  try rw [hM]
  try rw [HZ.out.1]
  try rw [HZ.out.2]
  refine HRD.out.mono ?_
  rintro e u3 ⟨code, rfl, hJ⟩
  obtain ⟨j1, j2, j4⟩ := hJ
  have HJ := Lib.hid (And.intro j1 j2)
  clear j1 j2 HRD hM
  cases hT : takeAr l with
  | error c' =>
    rw [hT] at j4
    obtain ⟨rfl, hc0⟩ := j4
    obtain rfl : PC = code := by rw [← HPE.out]; unfold parseA; rw [hT]
    have hci : ¬ (PC : Int) = 0 := by omega
    have hcd : decide ((PC : Int) = 0) = false := decide_eq_false hci
    have HC0 := Lib.hid hc0
    clear hT hc0
    go_wp2
    go_ret2
    exact ⟨HJ.out.1, .inl ⟨HC0.out, rfl⟩⟩
  | ok z =>
    obtain ⟨⟨g, bs, d1⟩, rest⟩ := z
    rw [hT] at j4
    dsimp only at j4
    obtain ⟨rfl, a4, ⟨vl, a5, a6⟩, a7, a8⟩ := j4
    have hfc := takeAr_facts hT
    by_cases hr : rest = []
    · subst hr
      simp only [if_pos] at *
      have hn32 : 32 ≤ n := by have := HSL.out.2.1; omega
      have HPC := Lib.hid (show parseA l = if deq (digL (l.take (l.length - 32))) d1 then recsF bs true [] else 11 from by unfold parseA; rw [hT]; rfl)
      obtain ⟨d0, hd0⟩ : ∃ d, digL (l.take (l.length - 32)) = d := ⟨_, rfl⟩
      rw [hd0] at HPC
      have HTT := Lib.hid hT
      have HBS := Lib.hid (And.intro hfc.2.1 hfc.2.2.1)
      have HMM3 := Lib.hid (show M ≤ u3.heap.size by have := HJ.out.2; omega)
      obtain ⟨k9, hk9⟩ : ∃ k, n - 32 = k := ⟨_, rfl⟩
      have HS := Lib.hid (fun (u : World) (hu : Below u3.heap.size u3 u) => (show _ ∧ _ from ⟨ld_dig (dgF_slX (a7.of_below hu) a8) a8, hu⟩))
      have hBu : ∀ u, Below u3.heap.size u3 u → Below w.heap.size w u := fun u hu => by have := HSL.out.2.2.2; rw [this]; exact HJ.out.1.trans (hu.mono (by have := HJ.out.2; omega))
      have HSM := Lib.hid (fun (b : Nat) (u : World) (hu : Below u3.heap.size u3 u) (hc4 : u.cell? ⟨b, 0, none⟩ = some (.slice q k9 cap)) => sum1_any (l.take (l.length - 32)) b 0 q k9 cap u (by rw [List.length_take]; have := HSL.out.2.1; omega) hc4 ((HSL.out.1.of_below (hBu u hu)).take _) (HSL.out.2.2.1.on (hBu u hu)) (by omega))
      rw [hd0] at HSM
      have HBW := Lib.hid (fun (u : World) (hu : Below u3.heap.size u3 u) => (show Below M w u from HJ.out.1.trans (hu.mono HMM3.out)))
      have HTB := Lib.hid (fun (u : World) (hu : Below u3.heap.size u3 u) => (show Tb u from HSL.out.2.2.1.on (hBu u hu)))
      have HC4 := Lib.hid (fun (u : World) (hu : Below u3.heap.size u3 u) => (show u.cell? ⟨M, 0, none⟩ = some (.int .i64 (g : Int)) from by rw [hu.cell (by exact World.block_lt_of_cell? u3 _ a4)]; exact a4))
      have HC5 := Lib.hid (fun (u : World) (hu : Below u3.heap.size u3 u) => (show u.cell? ⟨M + 1, 0, none⟩ = some vl ∧ HdL u (M + 6) vl bs from ⟨by rw [hu.cell (by exact World.block_lt_of_cell? u3 _ a5)]; exact a5, a6.keep hu.size (fun c _ h => hu.block c h)⟩))
      have w1 : IntKind.i64.wrap ((n : Int) - 32) = (k9 : Int) := by rw [IntKind.wrap_i64]; omega
      have w2 : (n : Int) - 32 = (k9 : Int) := by omega
      have w3 : IntKind.i64.wrap (k9 : Int) = (k9 : Int) := by rw [IntKind.wrap_i64]; omega
      have hsl := fun u => sl_hiX q n cap k9 u (by omega)
      clear a4 a5 a6 a7 a8 hT hfc hd0 hBu
      go_wp2
      refine wp_region_noPanic ?_
      refine wp_region_held_drew (S := (fun u : World => (ldT 41 (.pointer (some ⟨M + 2, 0, none⟩))).run Tryz.prog u = .ok (.value (digV d1)) u ∧ Below u3.heap.size u3 u)) (by kernel_rfl) (HS.out _ (Below.refl _ _).drew) (fun hHeld => ?_)
      generalize u3.drew = x at hHeld ⊢
      refine wpAnyH_take (i := 0) (v := ?_) (by simp only [List.getElem?_toArray, List.getElem?_cons_succ, List.getElem?_cons_zero]; exact rfl) (by kernel_rfl) (by kernel_rfl) (by kernel_rfl) (fun _ _ _ h => h) (Or.inl ⟨by rfl, ?_⟩) (by assumption) ?_
      rotate_left 1
      · (intro w hSw; (try dsimp only at hSw); go_simp; try with_reducible rfl)
      try simp only [Act.put, List.setIfInBounds_toArray, List.set_cons_zero, List.set_cons_succ]
      refine wpAnyH_take (i := 1) (v := ?_) (by simp only [List.getElem?_toArray, List.getElem?_cons_succ, List.getElem?_cons_zero]; exact rfl) (by kernel_rfl) (by kernel_rfl) (by kernel_rfl) (fun _ _ _ h => h) (Or.inl ⟨by rfl, ?_⟩) (by assumption) ?_
      rotate_left 1
      · (intro w hSw; (try dsimp only at hSw); go_simp; try with_reducible rfl)
      try simp only [Act.put, List.setIfInBounds_toArray, List.set_cons_zero, List.set_cons_succ]
      refine wpAnyH_take (i := 2) (v := ?_) (by simp only [List.getElem?_toArray, List.getElem?_cons_succ, List.getElem?_cons_zero]; exact rfl) (by kernel_rfl) (by kernel_rfl) (by kernel_rfl) (fun _ _ _ h => h) (Or.inl ⟨by rfl, ?_⟩) (by assumption) ?_
      rotate_left 1
      · (intro w hSw; (try dsimp only at hSw); go_simp; try with_reducible rfl)
      try simp only [Act.put, List.setIfInBounds_toArray, List.set_cons_zero, List.set_cons_succ]
      refine wpAnyH_take (i := 3) (v := ?_) (by simp only [List.getElem?_toArray, List.getElem?_cons_succ, List.getElem?_cons_zero]; exact rfl) (by kernel_rfl) (by kernel_rfl) (by kernel_rfl) (fun _ _ _ h => h) (Or.inl ⟨by rfl, ?_⟩) (by assumption) ?_
      rotate_left 1
      · (intro w hSw; (try dsimp only at hSw); go_simp; try with_reducible rfl)
      try simp only [Act.put, List.setIfInBounds_toArray, List.set_cons_zero, List.set_cons_succ]
      refine wpAnyH_take (i := 4) (v := ?_) (by simp only [List.getElem?_toArray, List.getElem?_cons_succ, List.getElem?_cons_zero]; exact rfl) (by kernel_rfl) (by kernel_rfl) (by kernel_rfl) (fun _ _ _ h => h) (Or.inl ⟨by rfl, ?_⟩) (by assumption) ?_
      rotate_left 1
      · (intro w hSw; (try dsimp only at hSw); go_simp; try with_reducible rfl)
      try simp only [Act.put, List.setIfInBounds_toArray, List.set_cons_zero, List.set_cons_succ]
      refine wpAnyH_take (i := 7) (v := ?_) (by simp only [List.getElem?_toArray, List.getElem?_cons_succ, List.getElem?_cons_zero]; exact rfl) (by kernel_rfl) (by kernel_rfl) (by kernel_rfl) (fun _ _ _ h => h) (Or.inl ⟨by rfl, ?_⟩) (by assumption) ?_
      rotate_left 1
      · (intro w hSw; (try dsimp only at hSw); go_simp; try with_reducible rfl)
      try simp only [Act.put, List.setIfInBounds_toArray, List.set_cons_zero, List.set_cons_succ]
      refine wpAnyH_ready (rs := [5]) (by kernel_rfl) (by simp) ?_
      refine (AllReadyH.cons (by simp only [List.getElem?_toArray, List.getElem?_cons_succ, List.getElem?_cons_zero]; exact rfl) (fun K hK => ?_) AllReadyH.nil)
      go_simp
      obtain ⟨y, hy⟩ : ∃ y, (x.alloc (.cells #[.slice q k9 cap] 53)) = y := ⟨_, rfl⟩
      have hBa : Below x.heap.size x y := by rw [← hy]; exact below_newD _ _
      have hC := (show y.cell? ⟨x.heap.size, 0, none⟩ = some (.slice q k9 cap) from by rw [← hy]; exact World.cell?_alloc_new _ _ _ _)
      rw [hy]
      have hXY := hHeld.2.trans (hBa.mono hHeld.2.size)
      clear hy hBa
      refine hK.out _ _ (HS.out _ hXY) (fun hHeld => ?_)
      clear hK K
      try simp only [Act.put, List.setIfInBounds_toArray, List.set_cons_zero, List.set_cons_succ]
      refine wpAnyH_ready (rs := [6]) (by kernel_rfl) (by simp) ?_
      refine (AllReadyH.cons (by simp only [List.getElem?_toArray, List.getElem?_cons_succ, List.getElem?_cons_zero]; exact rfl) (fun K hK => ?_) AllReadyH.nil)
      go_simp
      refine (HSM.out x.heap.size y hXY hC).mono ?_
      rintro e z ⟨rfl, hb5⟩
      have hXZ := hXY.trans (hb5.mono hXY.size)
      go_wp2_with fail
      refine hK.out _ _ (HS.out _ hXZ) (fun hHeld => ?_)
      clear hK K
      try simp only [Act.put, List.setIfInBounds_toArray, List.set_cons_zero, List.set_cons_succ]
      refine wpAnyH_take (i := 8) (v := ?_) (by simp only [List.getElem?_toArray, List.getElem?_cons_succ, List.getElem?_cons_zero]; exact rfl) (by kernel_rfl) (by kernel_rfl) (by kernel_rfl) (fun _ _ _ h => h) (Or.inl ⟨by rfl, ?_⟩) (by assumption) ?_
      rotate_left 1
      · (intro w hSw; (try dsimp only at hSw); go_simp; try with_reducible rfl)
      try simp only [Act.put, List.setIfInBounds_toArray, List.set_cons_zero, List.set_cons_succ]
      refine wpAnyH_take (i := 9) (v := ?_) (by simp only [List.getElem?_toArray, List.getElem?_cons_succ, List.getElem?_cons_zero]; exact rfl) (by kernel_rfl) (by kernel_rfl) (by kernel_rfl) (fun _ _ _ h => h) (Or.inl ⟨by rfl, ?_⟩) (by assumption) ?_
      rotate_left 1
      · (intro w hSw; (try dsimp only at hSw); go_simp; try with_reducible rfl)
      try simp only [Act.put, List.setIfInBounds_toArray, List.set_cons_zero, List.set_cons_succ]
      refine wpAnyH_done (by kernel_rfl) ?_ _
      refine NoPanic.normal ?_
      have HZ := Lib.hid hHeld.2
      clear hHeld
      obtain ⟨uz, huz⟩ : ∃ uz, z = uz := ⟨_, rfl⟩
      rw [huz] at HZ ⊢
      clear huz
      cases hdq : deq d0 d1 with
      | false =>
        rw [hdq] at HPC
        obtain rfl : PC = 11 := by rw [← HPE.out, HPC.out]; rfl
        go_wp2
        go_ret2
        exact ⟨HBW.out uz HZ.out, .inl ⟨by decide, rfl⟩⟩
      | true =>
        rw [hdq] at HPC
        have hz5 := (HC5.out uz HZ.out)
        have cc5 := hz5.1
        have hrec := recs_any (M + 6) uz vl bs hz5.2 HBS.out.1 HBS.out.2 (HTB.out uz HZ.out)
        have HREC := Lib.hid hrec
        clear hrec hz5
        go_wp2_with fail
        clear cc5
        refine HREC.out.mono ?_
        rintro e ux ⟨mv, rfl, hBx, hm⟩
        have hZx := HZ.out.trans (hBx.mono HZ.out.size)
        obtain ⟨rc, hrc⟩ : ∃ x, recsF bs true [] = x := ⟨_, rfl⟩
        rw [hrc] at hm ⊢
        have hpc : PC = rc := by rw [← HPE.out, HPC.out, ← hrc]; rfl
        subst hpc
        have HBX := Lib.hid (HBW.out ux hZx)
        by_cases h0 : PC = 0
        · subst h0
          obtain ⟨rfl, es, hM, hE, hl⟩ := hm rfl
          have cc4 := HC4.out ux hZx
          have hmb : uz.heap.size < ux.heap.size := hM.lt
          have HMM := Lib.hid (And.intro hM (And.intro hE hl))
          have HZS := Lib.hid (show M ≤ uz.heap.size ∧ M ≤ ux.heap.size ∧ uz.heap.size < ux.heap.size from ⟨by have := HMM3.out; have := HZ.out.size; omega, by have := HMM3.out; have := hZx.size; omega, hmb⟩)
          obtain ⟨mb, hmb'⟩ : ∃ b, uz.heap.size = b := ⟨_, rfl⟩
          rw [hmb'] at HMM ⊢
          clear hM hE hl hm hBx hmb
          go_wp2
          go_ret2
          have hnb : Below ux.heap.size ux (ux.alloc (.cells #[.int .i64 (g : Int), .map (some mb)] 120)) := below_newR _ _
          have hok : ParOk w l (.returned (.tuple #[.pointer (some ⟨ux.heap.size, 0, none⟩), .int .i64 0])) (ux.alloc (.cells #[.int .i64 (g : Int), .map (some mb)] 120)) :=
            ⟨ux.heap.size, mb, g, bs, d1, es, rfl, ⟨World.alloc_heap_new _ _, HMM.out.1.of_below hnb, fun e he => (HMM.out.2.1 e he).1.of_below hnb, fun e he => (HMM.out.2.1 e he).2.1, fun e he => (HMM.out.2.1 e he).2.2, by have := HMM.out.2.2; have := HBS.out.1; omega⟩, HTT.out, HMM.out.2.2, by rw [HSL.out.2.2.2]; exact HZS.out.2.1⟩
          refine ⟨HBX.out.trans (hnb.mono HZS.out.2.1), ?_⟩
          first | exact .inr ⟨rfl, hok⟩ | exact hok
        · have hci : ¬ (PC : Int) = 0 := by omega
          have hcd : decide ((PC : Int) = 0) = false := decide_eq_false hci
          have HP0 := Lib.hid h0
          clear hm hBx
          go_wp2
          go_ret2
          exact ⟨HBX.out, .inl ⟨HP0.out, rfl⟩⟩
    · rw [if_neg hr] at *
      obtain rfl : PC = 6 := by rw [← HPE.out]; unfold parseA; rw [hT]; dsimp only; rw [if_neg hr]
      clear hT a4 a5 a6 a7 a8 hfc
      go_wp2
      go_ret2
      exact ⟨HJ.out.1, .inl ⟨by decide, rfl⟩⟩
end Go.Proofs.YtnmopjefjpifoaaGreatDoor
/- archive.copies and Known. -/
set_option maxRecDepth 100000
namespace Go.Proofs.YtnmopjefjpifoaaGreatDoor
open Go Go.RowKit

attribute [-go_sem] Sha.exec_store
/-- The paths of the two copies. -/
def cpS (i : Nat) : S8 := [46, 112, 97, 114, 126, 97, 114, 99, 104, 105, 118, 101, 46, if i = 0 then 48 else 49]
def cpF (i : Nat) : Value := .string (mkS (cpS i))
def CpA (w : World) : Prop := ∀ i, i < 2 → w.cell? ⟨0, i, none⟩ = some (cpF i)
def cpV : Value := .agg (tab 2 cpF)
theorem CpA.cell {w : World} (h : CpA w) (i : Nat) (hi : i < 2) : w.cell? ⟨0, i, none⟩ = some (cpF i) := h i hi
theorem CpA.lt {w : World} (h : CpA w) : 0 < w.heap.size := World.block_lt_of_cell? w ⟨0, 0, none⟩ (h 0 (by decide))
theorem CpA.on {w w' : World} (h : CpA w) (hB : Below w.heap.size w w') : CpA w' := fun i hi => by rw [hB.cell (by exact h.lt)]; exact h i hi
theorem cp_load {w : World} (h : CpA w) : (ldT 147 (.pointer (some ⟨0, 0, none⟩))).run Tryz.prog w = .ok (.value cpV) w := by
  have hu : Tryz.prog.underlying 147 = some (.array 2 9) := by kernel_rfl
  have hr : w.rangeAt 0 0 (tab 2 cpF).toList := by
    intro j v hv
    have hj : j < 2 := by
      have := (List.getElem?_eq_some_iff.1 hv).1
      simpa [tab] using this
    rw [Nat.zero_add, h j hj]
    have h2 : (tab 2 cpF).toList[j]? = some (cpF j) := by simp [tab, hj]
    rw [h2] at hv
    exact hv
  have := run_loadAt_mid (P := Tryz.prog) w 0 0 147 _ _ hr hu rfl (by kernel_rfl)
  unfold cpV
  simp only [ldT, Sem.run_bind, this, Result.andThen, Sem.run_pure, Array.toArray_toList]
attribute [irreducible] cpV
theorem exec_loadC (r : Operand → Value) (dst : Option Tmp) (p : Operand) (ty : TypeId) (pos : String) (after : Array Edge) (guard : Option (Nat × Bool)) :
    execOp r ⟨dst, .load 147 p, ty, pos, after, guard⟩ = ldT 147 (r p) := rfl
theorem exec_indexC (r : Operand → Value) (dst : Option Tmp) (x i : Operand) (ty : TypeId) (pos : String) (after : Array Edge) (guard : Option (Nat × Bool)) :
    execOp r ⟨dst, .index 147 x i, ty, pos, after, guard⟩ = ixT 147 (r x) (r i) := rfl
theorem indexC0 (w : World) : (ixT 147 cpV (.int .i64 0)).run Tryz.prog w = .ok (.value (.string (mkS (cpS 0)))) w := by
  unfold cpV
  kernel_rfl
theorem indexC1 (w : World) : (ixT 147 cpV (.int .i64 1)).run Tryz.prog w = .ok (.value (.string (mkS (cpS 1)))) w := by
  unfold cpV
  kernel_rfl
theorem cp_ne : cpS 0 ≠ cpS 1 := by decide
attribute [local go_sem ↓] exec_loadC exec_indexC
attribute [local go_sem] indexC0 indexC1
set_option maxRecDepth 100000 in
set_option maxHeartbeats 4000000 in
theorem known_any (p : S8) (w : World) (hC : CpA w) : Calls Tryz.prog 50 #[.string (mkS p)] w fun e w' => e = .returned (.bool (p == cpS 0 || p == cpS 1)) ∧ w = w' := by
  have ld := cp_load hC
  obtain ⟨s0, hs0⟩ : ∃ x, cpS 0 = x := ⟨_, rfl⟩
  obtain ⟨s1, hs1⟩ : ∃ x, cpS 1 = x := ⟨_, rfl⟩
  have i0 := indexC0
  have i1 := indexC1
  rw [hs0] at i0
  rw [hs1] at i1
  rw [hs0, hs1]
  cases h0 : (p == s0) with
  | true =>
    go_enter Tryz.func50, Tryz.ntmps50
    go_wp2
    refine wp_loop_rounds 3 ?_
    repeat (rw [rounds_succ]; go_wp2)
    go_ret
    exact ⟨by simp, rfl⟩
  | false =>
    cases h1 : (p == s1) with
    | true =>
      go_enter Tryz.func50, Tryz.ntmps50
      go_wp2
      refine wp_loop_rounds 3 ?_
      repeat (rw [rounds_succ]; go_wp2)
      go_ret
      exact ⟨by simp, rfl⟩
    | false =>
      go_enter Tryz.func50, Tryz.ntmps50
      go_wp2
      refine wp_loop_rounds 3 ?_
      repeat (rw [rounds_succ]; go_wp2)
      go_ret
      exact ⟨by simp, rfl⟩
end Go.Proofs.YtnmopjefjpifoaaGreatDoor
/- archive.copies, as a row lists it; an argument that is an array of two slices of bytes. -/
set_option maxRecDepth 100000
namespace Go.Proofs.YtnmopjefjpifoaaGreatDoor
open Go Go.ChangeShapes Go.WideShapes Go.ChangeAt Go.RowKit
attribute [-go_sem] Sha.exec_store

def cpL : List (List UInt8) := [cpS 0, cpS 1]
theorem gCp : Tryz.prog.globalNamed "darner/archive.copies" = some 0 := by kernel_rfl
theorem tCp : (Tryz.prog.globals[0]?).map (·.type) = some 147 := by kernel_rfl
theorem uCp : Tryz.prog.underlying 147 = some (.array 2 9) := by kernel_rfl
theorem cCp : Tryz.prog.cellsOf 147 = 2 := by kernel_rfl
theorem cp_of {W : World} {rest : List (String × DataW Unit)} (h : laidMet Tryz.prog (("darner/archive.copies", .agg (cpL.map fun z => .lit (.string z))) :: rest) W) : CpA W := fun i hi => by
  have h2 := strs_of_head13 gCp tCp uCp uNs cNs cCp h i (by show i < 2; exact hi)
  rw [h2]
  have : i = 0 ∨ i = 1 := by omega
  rcases this with rfl | rfl
  · exact congrArg (fun x => some (Value.string x)) (mkS_lit (cpS 0))
  · exact congrArg (fun x => some (Value.string x)) (mkS_lit (cpS 1))
def TbC (W : World) : Prop := CpA W ∧ Tb W
theorem undArrB : Tryz.prog.underlying 54 = some (.array 2 53) := by kernel_rfl
theorem cellsBs : Tryz.prog.cellsOf 53 = 1 := by kernel_rfl
theorem cellsArrB : Tryz.prog.cellsOf 54 = 2 := by kernel_rfl
/-- One of the array's slices. -/
theorem open_b11 {H : Type} {enc : TypeId × Value → H} {W : World} {n : Nat} {v : Value} {x : DataW H × List MemPlace}
    (h : DataW.trod enc Tryz.prog W 0 (fun _ => true) true n 53 [v] = some x) : ∃ (l : By) (q : Option Addr) (k c : Nat), v = .slice q k c ∧ Sl W q l ∧ l.length = k ∧ (q = none → c = 0) ∧ k ≤ c := by
  rcases open_ints undBytes undByte cellsByte h with ⟨hcs, _⟩ | ⟨a, len, cap, zs, hcs, _⟩
  · injection hcs with hcs
    subst hcs
    exact ⟨[], none, 0, 0, rfl, fun j hj => absurd hj (by simp), rfl, fun _ => rfl, Nat.le_refl _⟩
  · injection hcs with hcs
    subst hcs
    obtain ⟨l, h1, h2, h3, h4⟩ := open_bytes6 (ps := x.2) (d := x.1) ⟨n, h⟩
    exact ⟨l, some a, len, cap, rfl, h1, h2, h3, h4⟩
/-- An argument that is an array of two slices of bytes. -/
theorem open_arrb {H : Type} {enc : TypeId × Value → H} {W : World} {r : _root_.Go.Reach} {b0 : Nat} {v : Value} {d : DataW H} {ps : List MemPlace} (hval : Value.okWide Tryz.prog W r b0 54 v)
    (h : DataW.Trod enc Tryz.prog W 0 (fun _ => true) true 54 v d ps) : ∃ (l m : By) (q0 q1 : Option Addr) (n0 n1 c0 c1 : Nat), v = .agg #[.slice q0 n0 c0, .slice q1 n1 c1] ∧ (Sl W q0 l ∧ l.length = n0 ∧ (q0 = none → c0 = 0) ∧ n0 ≤ c0) ∧ (Sl W q1 m ∧ m.length = n1 ∧ (q1 = none → c1 = 0) ∧ n1 ≤ c1) := by
  simp only [Value.okWide, undArrB] at hval
  obtain ⟨cs, rfl, hsz, -⟩ := hval
  rw [cellsArrB] at hsz
  obtain ⟨fuel, hf⟩ := h
  obtain ⟨xs, m, -, hx, hl, hn, hi⟩ := DataW.trod_array undArrB hf
  rw [cellsBs] at hi
  have hc : ((Value.agg cs).cells.toList) = cs.toList := rfl
  rw [hc] at hi
  obtain ⟨l⟩ := cs
  match l, hsz with
  | [u, v], _ =>
    have e0 := hi 0 (by decide)
    have e1 := hi 1 (by decide)
    simp at e0 e1
    match xs, hn with
    | [y0, y1], _ =>
      simp at e0 e1
      obtain ⟨l0, q0, n0, c0, rfl, a1, a2, a3, a4⟩ := open_b11 e0
      obtain ⟨l1, q1, n1, c1, rfl, b1, b2, b3, b4⟩ := open_b11 e1
      exact ⟨l0, l1, q0, q1, n0, n1, c0, c1, rfl, ⟨a1, a2, a3, a4⟩, ⟨b1, b2, b3, b4⟩⟩
end Go.Proofs.YtnmopjefjpifoaaGreatDoor
/- The program's disk as the statements' walks take it; a fixed fact. -/
set_option maxRecDepth 100000
namespace Go.Proofs.YtnmopjefjpifoaaGreatDoor
open Go Go.RowKit
attribute [-go_sem] Sha.exec_store

/-- Block b is the disk m; its memory is S. -/
def Dsk (w : World) (S : Nat → Prop) (b : Nat) (m : Dk) : Prop := ∃ mv md pv vs sl, Dp w S b m mv md pv vs sl
/-- Behind a call. -/
def Nxt (S : Nat → Prop) (b : Nat) (w : World) (m : Dk) (w' : World) : Prop := Dsk w' (SN S w.heap.size w'.heap.size) b m ∧ Kq8 S w w'
section
variable {w w' : World} {S : Nat → Prop} {b : Nat} {m : Dk}
theorem Dsk.of_below (h : Dsk w S b m) (hB : Below w.heap.size w w') : Dsk w' S b m := by
  obtain ⟨mv, md, pv, vs, sl, h⟩ := h
  exact ⟨mv, md, pv, vs, sl, h.of_below hB⟩
theorem Dsk.low (h : Dsk w S b m) : ∀ k, S k → k < w.heap.size := by
  obtain ⟨mv, md, pv, vs, sl, h⟩ := h
  exact h.low
/-- Another disk's call leaves it alone. -/
theorem Dsk.apart {S2 : Nat → Prop} (h : Dsk w S b m) (hk : Kq8 S2 w w') (ha : ∀ k, S k → ¬ S2 k) : Dsk w' S b m := by
  obtain ⟨mv, md, pv, vs, sl, h⟩ := h
  exact ⟨mv, md, pv, vs, sl, h.keep (fun k hs => hk.block k (h.low k hs) (ha k hs)) (fun _ x => x) (fun k hs => Nat.lt_of_lt_of_le (h.low k hs) hk.size)⟩
theorem dnew_any (room : Int) (w : World) : Calls Tryz.prog 20 #[.int .i64 room] w fun e w' => ∃ b, e = .returned (.pointer (some ⟨b, 0, none⟩)) ∧ Dsk w' (fun k => w.heap.size ≤ k ∧ k < w'.heap.size) b ⟨clampL room, 0, [], [], [], []⟩ ∧ Below w.heap.size w w' :=
  (newD_any room w).mono fun e w' ⟨h1, h2, h3⟩ => ⟨_, h1, ⟨_, _, _, _, _, h2⟩, h3⟩
theorem dwrite_any (h : Dsk w S b m) (hok : DkOk 299 m) (h64 : m.seen.length ≤ 64) (hr0 : 0 ≤ m.room) (hr1 : m.room ≤ 1048576) (p x : S8) (q : Option Addr) (cap : Nat) (time : Int) (hp : p.length ≤ 1000) (hx : x.length ≤ 400000) (hl : LsG (fun k => ¬ S k) w q x.length cap 1 (bytC x)) : Calls Tryz.prog 21 #[.pointer (some ⟨b, 0, none⟩), .string (mkS p), .slice q x.length cap, .int .i64 time] w fun e w' => e = .returned (.int .i64 ((writeL m p x time).2 : Int)) ∧ Nxt S b w (writeL m p x time).1 w' := by
  obtain ⟨mv, md, pv, vs, sl, h⟩ := h
  rw [← writeQ_eq m p x time h64]
  exact write_any h hok hr0 hr1 p x q cap time hp hx hl
theorem dsync_any (h : Dsk w S b m) : Calls Tryz.prog 100 #[.pointer (some ⟨b, 0, none⟩)] w fun e w' => e = .returned (.tuple #[]) ∧ Nxt S b w (syncL m) w' := by
  obtain ⟨mv, md, pv, vs, sl, h⟩ := h
  exact sync_any h
theorem dread_any (h : Dsk w S b m) (hok : DkOk 300 m) (p : S8) : Calls Tryz.prog 71 #[.pointer (some ⟨b, 0, none⟩), .string (mkS p)] w fun e w' => ∃ v, e = .returned (.tuple #[v, .int .i64 (readN m p)]) ∧ w'.ownsRow w.heap.size 5 1 v ((readL m p).getD []).length (bytC ((readL m p).getD [])) ∧ Below w.heap.size w w' := by
  obtain ⟨mv, md, pv, vs, sl, h⟩ := h
  exact readD_any h hok p
theorem dstat_any (h : Dsk w S b m) (p : S8) : Calls Tryz.prog 105 #[.pointer (some ⟨b, 0, none⟩), .string (mkS p)] w fun e w' => e = .returned (stampV (fileL m p)) ∧ Below w.heap.size w w' := by
  obtain ⟨mv, md, pv, vs, sl, h⟩ := h
  exact stat_any h p
theorem dpaths_any (h : Dsk w S b m) (hok : DkOk 300 m) : Calls Tryz.prog 172 #[.pointer (some ⟨b, 0, none⟩)] w fun e w' => ∃ (v : Value) (ls : List S8), e = .returned v ∧ ls.Perm (m.seen.map Fl.p) ∧ ls.Pairwise (fun x y => decide (y ≤ x) = false) ∧ w'.ownsRow w.heap.size 9 1 v ls.length (ls.map fun s => .string (mkS s)) ∧ Below w.heap.size w w' := by
  obtain ⟨mv, md, pv, vs, sl, h⟩ := h
  exact paths_any h hok
theorem droom_any (h : Dsk w S b m) : Calls Tryz.prog 217 #[.pointer (some ⟨b, 0, none⟩)] w fun e w' => e = .returned (.int .i64 m.room) ∧ w = w' := by
  obtain ⟨mv, md, pv, vs, sl, h⟩ := h
  exact room_any h
theorem Dsk.once (h : Dsk w S b m) : OnceF m.seen := by
  obtain ⟨mv, md, pv, vs, sl, h⟩ := h
  exact h.vis.once
end
end Go.Proofs.YtnmopjefjpifoaaGreatDoor
/- archive.Load where no copy is an archive. -/
set_option maxRecDepth 100000
namespace Go.Proofs.YtnmopjefjpifoaaGreatDoor
open Go Go.RowKit

attribute [-go_sem] Sha.exec_store
theorem bytC_pB (x : S8) : bytC x = (pB x).map B := by
  unfold bytC pB
  rw [List.map_map]
  exact List.map_congr_left fun c _ => (B_eq' c.toBitVec).symm
theorem sl_bytC {w : World} {q : Option Addr} {x : S8} (h : LsC w q (bytC x)) : Sl w q (pB x) := fun j hj => by
  rw [bytC_pB] at h
  obtain ⟨c, o, e, hc⟩ := h j (by rw [List.length_map]; exact hj)
  refine ⟨c, o, e, ?_⟩
  rw [hc, List.getElem?_map, List.getD_eq_getElem?_getD, List.getElem?_eq_getElem hj]
  rfl
section
variable {w : World} {S : Nat → Prop} {b : Nat} {m : Dk}
attribute [local go_sem ↓] exec_loadC exec_indexC
attribute [local go_sem] indexC0 indexC1
set_option maxRecDepth 100000 in
set_option maxHeartbeats 8000000 in
theorem load_none00 (h : Dsk w S b m) (hok : DkOk 300 m) (hC : CpA w) (hT : Tb w) (h0 : readL m (cpS 0) = none) (h1 : readL m (cpS 1) = none) :
    Calls Tryz.prog 24 #[.pointer (some ⟨b, 0, none⟩)] w fun e w' => e = .returned (.tuple #[.pointer none, .int .i64 0, .int .i64 8]) ∧ Below w.heap.size w w' := by
  have ld := cp_load hC
  have HR0 := Lib.hid (fun (u : World) (hu : Below w.heap.size w u) => dread_any (h.of_below hu) hok (cpS 0))
  have HR1 := Lib.hid (fun (u : World) (hu : Below w.heap.size w u) => dread_any (h.of_below hu) hok (cpS 1))
  rw [show readN m (cpS 0) = 8 by unfold readN; rw [h0]; rfl, h0] at HR0
  rw [show readN m (cpS 1) = 8 by unfold readN; rw [h1]; rfl, h1] at HR1
  simp only [Option.getD_some, Option.getD_none, List.length_nil] at HR0 HR1
  have HX := Lib.hid (Below.refl w.heap.size w)
  have HT := Lib.hid (fun (u : World) (hu : Below w.heap.size w u) => hT.on hu)


  clear h hok hC hT h0 h1  
  go_enter Tryz.func24, Tryz.ntmps24
  go_wp2_with fail
  clear ld
  refine wp_loop_rounds 3 ?_
  rw [rounds_succ]
  go_wp2_with fail
  refine HR0.out _ HX.out |>.mono ?_
  rintro e w0 ⟨v0, rfl, hO, hB⟩
  have HX := Lib.hid (HX.out.trans (hB.mono HX.out.size))
  obtain ⟨q0, c0, rfl⟩ := own_sliceR hO
  clear hO hB
  go_wp2
  rw [rounds_succ]
  go_wp2_with fail
  refine HR1.out _ HX.out |>.mono ?_
  rintro e w1 ⟨v1, rfl, hO, hB⟩
  have HX := Lib.hid (HX.out.trans (hB.mono HX.out.size))
  obtain ⟨q1, c1, rfl⟩ := own_sliceR hO
  clear hO hB
  go_wp2
  rw [rounds_succ]
  go_wp2
  go_ret3
  exact ⟨rfl, HX.out⟩
set_option maxRecDepth 100000 in
set_option maxHeartbeats 8000000 in
theorem load_none01 (h : Dsk w S b m) (hok : DkOk 300 m) (hC : CpA w) (hT : Tb w) (h0 : readL m (cpS 0) = none) (x1 : S8) (h1 : readL m (cpS 1) = some x1) (hl1 : x1.length < 1000000 ∧ parseA (pB x1) ≠ 0) :
    Calls Tryz.prog 24 #[.pointer (some ⟨b, 0, none⟩)] w fun e w' => e = .returned (.tuple #[.pointer none, .int .i64 0, .int .i64 11]) ∧ Below w.heap.size w w' := by
  have ld := cp_load hC
  have HR0 := Lib.hid (fun (u : World) (hu : Below w.heap.size w u) => dread_any (h.of_below hu) hok (cpS 0))
  have HR1 := Lib.hid (fun (u : World) (hu : Below w.heap.size w u) => dread_any (h.of_below hu) hok (cpS 1))
  rw [show readN m (cpS 0) = 8 by unfold readN; rw [h0]; rfl, h0] at HR0
  rw [show readN m (cpS 1) = 0 by unfold readN; rw [h1]; rfl, h1] at HR1
  simp only [Option.getD_some, Option.getD_none, List.length_nil] at HR0 HR1
  have HX := Lib.hid (Below.refl w.heap.size w)
  have HT := Lib.hid (fun (u : World) (hu : Below w.heap.size w u) => hT.on hu)

  have HL1 := Lib.hid hl1
  clear h hok hC hT h0 h1  hl1
  go_enter Tryz.func24, Tryz.ntmps24
  go_wp2_with fail
  clear ld
  refine wp_loop_rounds 3 ?_
  rw [rounds_succ]
  go_wp2_with fail
  refine HR0.out _ HX.out |>.mono ?_
  rintro e w0 ⟨v0, rfl, hO, hB⟩
  have HX := Lib.hid (HX.out.trans (hB.mono HX.out.size))
  obtain ⟨q0, c0, rfl⟩ := own_sliceR hO
  clear hO hB
  go_wp2
  rw [rounds_succ]
  go_wp2_with fail
  refine HR1.out _ HX.out |>.mono ?_
  rintro e w1 ⟨v1, rfl, hO, hB⟩
  have HX := Lib.hid (HX.out.trans (hB.mono HX.out.size))
  obtain ⟨q1, c1, rfl, hl, hq, hc, -⟩ := own_shape hO
  have HP := Lib.hid (parseA_any (pB x1) q1 x1.length c1 w1 (by unfold pB; rw [List.length_map]) (sl_bytC hl) hq hc HL1.out.1 (HT.out _ HX.out))
  clear hO hB hl hq hc
  go_wp2_with fail
  refine HP.out.mono ?_
  rintro e u1 ⟨hB2, hor⟩
  obtain ⟨hne, rfl⟩ := hor.resolve_right (fun h => HL1.out.2 h.1)
  have HX := Lib.hid (HX.out.trans (hB2.mono HX.out.size))
  obtain ⟨k1, hk1⟩ : ∃ k, parseA (pB x1) = k := ⟨_, rfl⟩
  rw [hk1] at hne ⊢
  have hz1 : ¬ (k1 : Int) = 0 := by omega
  have hd1 : decide ((k1 : Int) = 0) = false := decide_eq_false hz1
  have he1 : ((k1 : Int) == 0) = false := by simp; omega
  clear hB2 hk1 hne HP hor
  go_wp2
  go_quiet (fail)
  have HX := Lib.hid (HX.out.trans (((Dr.refl _).drewN nq).below _))
  go_wp2
  rw [rounds_succ]
  go_wp2
  go_ret3
  exact ⟨rfl, HX.out⟩
set_option maxRecDepth 100000 in
set_option maxHeartbeats 8000000 in
theorem load_none10 (h : Dsk w S b m) (hok : DkOk 300 m) (hC : CpA w) (hT : Tb w) (x0 : S8) (h0 : readL m (cpS 0) = some x0) (hl0 : x0.length < 1000000 ∧ parseA (pB x0) ≠ 0) (h1 : readL m (cpS 1) = none) :
    Calls Tryz.prog 24 #[.pointer (some ⟨b, 0, none⟩)] w fun e w' => e = .returned (.tuple #[.pointer none, .int .i64 0, .int .i64 11]) ∧ Below w.heap.size w w' := by
  have ld := cp_load hC
  have HR0 := Lib.hid (fun (u : World) (hu : Below w.heap.size w u) => dread_any (h.of_below hu) hok (cpS 0))
  have HR1 := Lib.hid (fun (u : World) (hu : Below w.heap.size w u) => dread_any (h.of_below hu) hok (cpS 1))
  rw [show readN m (cpS 0) = 0 by unfold readN; rw [h0]; rfl, h0] at HR0
  rw [show readN m (cpS 1) = 8 by unfold readN; rw [h1]; rfl, h1] at HR1
  simp only [Option.getD_some, Option.getD_none, List.length_nil] at HR0 HR1
  have HX := Lib.hid (Below.refl w.heap.size w)
  have HT := Lib.hid (fun (u : World) (hu : Below w.heap.size w u) => hT.on hu)
  have HL0 := Lib.hid hl0

  clear h hok hC hT h0 h1 hl0 
  go_enter Tryz.func24, Tryz.ntmps24
  go_wp2_with fail
  clear ld
  refine wp_loop_rounds 3 ?_
  rw [rounds_succ]
  go_wp2_with fail
  refine HR0.out _ HX.out |>.mono ?_
  rintro e w0 ⟨v0, rfl, hO, hB⟩
  have HX := Lib.hid (HX.out.trans (hB.mono HX.out.size))
  obtain ⟨q0, c0, rfl, hl, hq, hc, -⟩ := own_shape hO
  have HP := Lib.hid (parseA_any (pB x0) q0 x0.length c0 w0 (by unfold pB; rw [List.length_map]) (sl_bytC hl) hq hc HL0.out.1 (HT.out _ HX.out))
  clear hO hB hl hq hc
  go_wp2_with fail
  refine HP.out.mono ?_
  rintro e u0 ⟨hB2, hor⟩
  obtain ⟨hne, rfl⟩ := hor.resolve_right (fun h => HL0.out.2 h.1)
  have HX := Lib.hid (HX.out.trans (hB2.mono HX.out.size))
  obtain ⟨k0, hk0⟩ : ∃ k, parseA (pB x0) = k := ⟨_, rfl⟩
  rw [hk0] at hne ⊢
  have hz0 : ¬ (k0 : Int) = 0 := by omega
  have hd0 : decide ((k0 : Int) = 0) = false := decide_eq_false hz0
  have he0 : ((k0 : Int) == 0) = false := by simp; omega
  clear hB2 hk0 hne HP hor
  go_wp2
  go_quiet (fail)
  have HX := Lib.hid (HX.out.trans (((Dr.refl _).drewN nq).below _))
  go_wp2
  rw [rounds_succ]
  go_wp2_with fail
  refine HR1.out _ HX.out |>.mono ?_
  rintro e w1 ⟨v1, rfl, hO, hB⟩
  have HX := Lib.hid (HX.out.trans (hB.mono HX.out.size))
  obtain ⟨q1, c1, rfl⟩ := own_sliceR hO
  clear hO hB
  go_wp2
  rw [rounds_succ]
  go_wp2
  go_ret3
  exact ⟨rfl, HX.out⟩
set_option maxRecDepth 100000 in
set_option maxHeartbeats 8000000 in
theorem load_none11 (h : Dsk w S b m) (hok : DkOk 300 m) (hC : CpA w) (hT : Tb w) (x0 : S8) (h0 : readL m (cpS 0) = some x0) (hl0 : x0.length < 1000000 ∧ parseA (pB x0) ≠ 0) (x1 : S8) (h1 : readL m (cpS 1) = some x1) (hl1 : x1.length < 1000000 ∧ parseA (pB x1) ≠ 0) :
    Calls Tryz.prog 24 #[.pointer (some ⟨b, 0, none⟩)] w fun e w' => e = .returned (.tuple #[.pointer none, .int .i64 0, .int .i64 11]) ∧ Below w.heap.size w w' := by
  have ld := cp_load hC
  have HR0 := Lib.hid (fun (u : World) (hu : Below w.heap.size w u) => dread_any (h.of_below hu) hok (cpS 0))
  have HR1 := Lib.hid (fun (u : World) (hu : Below w.heap.size w u) => dread_any (h.of_below hu) hok (cpS 1))
  rw [show readN m (cpS 0) = 0 by unfold readN; rw [h0]; rfl, h0] at HR0
  rw [show readN m (cpS 1) = 0 by unfold readN; rw [h1]; rfl, h1] at HR1
  simp only [Option.getD_some, Option.getD_none, List.length_nil] at HR0 HR1
  have HX := Lib.hid (Below.refl w.heap.size w)
  have HT := Lib.hid (fun (u : World) (hu : Below w.heap.size w u) => hT.on hu)
  have HL0 := Lib.hid hl0
  have HL1 := Lib.hid hl1
  clear h hok hC hT h0 h1 hl0 hl1
  go_enter Tryz.func24, Tryz.ntmps24
  go_wp2_with fail
  clear ld
  refine wp_loop_rounds 3 ?_
  rw [rounds_succ]
  go_wp2_with fail
  refine HR0.out _ HX.out |>.mono ?_
  rintro e w0 ⟨v0, rfl, hO, hB⟩
  have HX := Lib.hid (HX.out.trans (hB.mono HX.out.size))
  obtain ⟨q0, c0, rfl, hl, hq, hc, -⟩ := own_shape hO
  have HP := Lib.hid (parseA_any (pB x0) q0 x0.length c0 w0 (by unfold pB; rw [List.length_map]) (sl_bytC hl) hq hc HL0.out.1 (HT.out _ HX.out))
  clear hO hB hl hq hc
  go_wp2_with fail
  refine HP.out.mono ?_
  rintro e u0 ⟨hB2, hor⟩
  obtain ⟨hne, rfl⟩ := hor.resolve_right (fun h => HL0.out.2 h.1)
  have HX := Lib.hid (HX.out.trans (hB2.mono HX.out.size))
  obtain ⟨k0, hk0⟩ : ∃ k, parseA (pB x0) = k := ⟨_, rfl⟩
  rw [hk0] at hne ⊢
  have hz0 : ¬ (k0 : Int) = 0 := by omega
  have hd0 : decide ((k0 : Int) = 0) = false := decide_eq_false hz0
  have he0 : ((k0 : Int) == 0) = false := by simp; omega
  clear hB2 hk0 hne HP hor
  go_wp2
  go_quiet (fail)
  have HX := Lib.hid (HX.out.trans (((Dr.refl _).drewN nq).below _))
  go_wp2
  rw [rounds_succ]
  go_wp2_with fail
  refine HR1.out _ HX.out |>.mono ?_
  rintro e w1 ⟨v1, rfl, hO, hB⟩
  have HX := Lib.hid (HX.out.trans (hB.mono HX.out.size))
  obtain ⟨q1, c1, rfl, hl, hq, hc, -⟩ := own_shape hO
  have HP := Lib.hid (parseA_any (pB x1) q1 x1.length c1 w1 (by unfold pB; rw [List.length_map]) (sl_bytC hl) hq hc HL1.out.1 (HT.out _ HX.out))
  clear hO hB hl hq hc
  go_wp2_with fail
  refine HP.out.mono ?_
  rintro e u1 ⟨hB2, hor⟩
  obtain ⟨hne, rfl⟩ := hor.resolve_right (fun h => HL1.out.2 h.1)
  have HX := Lib.hid (HX.out.trans (hB2.mono HX.out.size))
  obtain ⟨k1, hk1⟩ : ∃ k, parseA (pB x1) = k := ⟨_, rfl⟩
  rw [hk1] at hne ⊢
  have hz1 : ¬ (k1 : Int) = 0 := by omega
  have hd1 : decide ((k1 : Int) = 0) = false := decide_eq_false hz1
  have he1 : ((k1 : Int) == 0) = false := by simp; omega
  clear hB2 hk1 hne HP hor
  go_wp2
  go_quiet (fail)
  have HX := Lib.hid (HX.out.trans (((Dr.refl _).drewN nq).below _))
  go_wp2
  rw [rounds_succ]
  go_wp2
  go_ret3
  exact ⟨rfl, HX.out⟩
/-- Load where no copy is an archive. -/
theorem load_none (h : Dsk w S b m) (hok : DkOk 300 m) (hC : CpA w) (hT : Tb w) (h0 : ∀ x, readL m (cpS 0) = some x → x.length < 1000000 ∧ parseA (pB x) ≠ 0) (h1 : ∀ x, readL m (cpS 1) = some x → x.length < 1000000 ∧ parseA (pB x) ≠ 0) :
    Calls Tryz.prog 24 #[.pointer (some ⟨b, 0, none⟩)] w fun e w' => e = .returned (.tuple #[.pointer none, .int .i64 0, .int .i64 (if (readL m (cpS 0)).isSome || (readL m (cpS 1)).isSome then 11 else 8)]) ∧ Below w.heap.size w w' := by
  cases e0 : readL m (cpS 0) with
  | none =>
    cases e1 : readL m (cpS 1) with
    | none => exact load_none00 h hok hC hT e0 e1
    | some x1 => exact load_none01 h hok hC hT e0 x1 e1 (h1 x1 e1)
  | some x0 =>
    cases e1 : readL m (cpS 1) with
    | none => exact load_none10 h hok hC hT x0 e0 (h0 x0 e0) e1
    | some x1 => exact load_none11 h hok hC hT x0 e0 (h0 x0 e0) x1 e1 (h1 x1 e1)
end
end Go.Proofs.YtnmopjefjpifoaaGreatDoor
/- A disk on which an archive of 34 bytes is saved (plain). -/
set_option maxRecDepth 100000
namespace Go.Proofs.YtnmopjefjpifoaaGreatDoor
open Go Go.RowKit
attribute [-go_sem] Sha.exec_store

def aw0 : Dk := ⟨500, 0, [], [], [], []⟩
def af0 (x : S8) : Fl := ⟨cpS 0, 0, (x.length : Int), 1, 1⟩
def af1 (x : S8) : Fl := ⟨cpS 1, 1, (x.length : Int), 1, 2⟩
def aw1 (x : S8) : Dk := ⟨500, 1, [x], [af0 x], [], [⟨1, [], af0 x⟩]⟩
def aw2 (x : S8) : Dk := ⟨500, 1, [x], [af0 x], [af0 x], []⟩
def aw3 (x : S8) : Dk := ⟨500, 2, [x, x], [af0 x, af1 x], [af0 x], [⟨1, [], af1 x⟩]⟩
def aw4 (x : S8) : Dk := ⟨500, 2, [x, x], [af0 x, af1 x], [af0 x, af1 x], []⟩
theorem cp_good0 : goodL (cpS 0) = true := by decide +kernel
theorem cp_good1 : goodL (cpS 1) = true := by decide +kernel
theorem cp_cl : clashL (cpS 0) (cpS 1) = false := by decide +kernel
theorem cp_eq : (cpS 0 == cpS 1) = false := by decide
theorem cp_eq' : (cpS 1 == cpS 0) = false := by decide
theorem aw11_w1 (x : S8) (hx : x.length = 34) : writeL aw0 (cpS 0) x 1 = (aw1 x, 0) := by
  unfold writeL
  rw [cp_good0]
  simp [hx, aw0, clashesL, findL, leftL, usedL, changeL, doL, withoutL, aw1, af0]
theorem aw11_s1 (x : S8) : syncL (aw1 x) = aw2 x := rfl
theorem aw11_w2 (x : S8) (hx : x.length = 34) : writeL (aw2 x) (cpS 1) x 1 = (aw3 x, 0) := by
  unfold writeL
  rw [cp_good1]
  simp [hx, aw2, clashesL, findL, leftL, usedL, changeL, doL, withoutL, aw3, af0, af1, bodyD, cp_cl, cp_eq, cp_ne]
theorem aw11_s2 (x : S8) : syncL (aw3 x) = aw4 x := rfl
theorem aw11_r0 (x : S8) : readL (aw4 x) (cpS 0) = some x := by
  simp [readL, aw4, findL, af0, af1, bodyD, List.findIdx?_cons]
theorem aw11_r1 (x : S8) : readL (aw4 x) (cpS 1) = some x := by
  simp [readL, aw4, findL, af0, af1, bodyD, List.findIdx?_cons, cp_eq]
theorem aw0_ok : DkOk 0 aw0 := DkOk.zero 500
theorem aw1_ok (x : S8) (hx : x.length = 34) : DkOk 1 (aw1 x) := by
  have := aw0_ok.write (cpS 0) x 1
  rw [aw11_w1 x hx] at this
  exact this
theorem aw2_ok (x : S8) (hx : x.length = 34) : DkOk 2 (aw2 x) := by
  have := (aw1_ok x hx).sync
  rw [aw11_s1] at this
  exact this.mono (by decide)
theorem aw3_ok (x : S8) (hx : x.length = 34) : DkOk 3 (aw3 x) := by
  have := (aw2_ok x hx).write (cpS 1) x 1
  rw [aw11_w2 x hx] at this
  exact this
theorem aw4_ok (x : S8) (hx : x.length = 34) : DkOk 4 (aw4 x) := by
  have := (aw3_ok x hx).sync
  rw [aw11_s2] at this
  exact this.mono (by decide)
/-- An archive without records, of generation 1. -/
theorem enc1 : encAr 1 [] = [1#8, 0#8] ++ digL [1#8, 0#8] := by
  have h : bodyA 1 [] = [1#8, 0#8] := by
    unfold bodyA itsA
    rw [enc7_lo (by decide), show ([] : List Ent).length = 0 from rfl, enc7_lo (by decide)]
    rfl
  unfold encAr
  rw [h]
theorem enc1_len : (encAr 1 []).length = 34 := by rw [enc1, List.length_append, digL_len]; rfl
end Go.Proofs.YtnmopjefjpifoaaGreatDoor
/- archive.clashes, hasRoom, refusal, of a disk without files. -/
set_option maxRecDepth 100000
namespace Go.Proofs.YtnmopjefjpifoaaGreatDoor
open Go Go.RowKit

attribute [-go_sem] Sha.exec_store
theorem takeAr1 : takeAr (encAr 1 []) = .ok ((1, [], digL [1#8, 0#8]), []) := by
  have hd := digL_len [1#8, 0#8]
  obtain ⟨d, hdd⟩ : ∃ d, digL [1#8, 0#8] = d := ⟨_, rfl⟩
  rw [enc1, hdd]
  rw [hdd] at hd
  have e : [1#8, 0#8] ++ d = enc7 1 ++ (enc7 0 ++ d) := by rw [enc7_lo (by decide), enc7_lo (by decide)]; rfl
  have h1 := takeI_encT (n := 1) (most := maxT) (enc7 0 ++ d) (by decide) (by decide)
  have h2 := takeI_encT (n := 0) (most := 128) d (by decide) (by decide)
  rw [e]
  unfold takeAr
  rw [stp_ok h1, List.drop_left, stp_ok h2, List.drop_left]
  simp only [takeBs]
  have h3 : nextI d 4 0 = ((nextI d 4 0).1, (nextI d 4 0).2.1, 0) := by
    have hc := nextI_code (l := d) (most := 0) (x := (nextI d 4 0).1) (k := (nextI d 4 0).2.1) (c := (nextI d 4 0).2.2) rfl
    by_cases h0 : (nextI d 4 0).2.2 = 0
    · rw [← h0]
    · have := (hc.2 h0).2; omega
  have hc := (nextI_code h3).1 rfl
  rw [stp_ok h3, hc.1, hc.2.1, List.take_of_length_le (by omega), List.drop_of_length_le (by omega)]
theorem parseA1 : parseA (encAr 1 []) = 0 := by
  unfold parseA
  rw [takeAr1]
  have hl := enc1_len
  have ht : (encAr 1 []).take ((encAr 1 []).length - 32) = [1#8, 0#8] := by
    rw [hl, enc1]
    exact List.take_left' rfl
  dsimp only
  rw [ht, if_pos rfl]
  have : deq (digL [1#8, 0#8]) (digL [1#8, 0#8]) = true := deq_self _
  rw [this]
  rfl
theorem exec_storeSt (r : Operand → Value) (dst : Option Tmp) (p v : Operand) (ty : TypeId) (pos : String) (after : Array Edge) (guard : Option (Nat × Bool)) :
    execOp r ⟨dst, .store 38 p v, ty, pos, after, guard⟩ = stT 38 (r p) (r v) := rfl
theorem st_stamp11 (w : World) (a b c x y z : Int) : (stT 38 (.pointer (some ⟨w.heap.size, 0, none⟩)) (.agg #[.int .i64 a, .int .i64 b, .int .i64 c])).run Tryz.prog (w.alloc (.cells #[.int .i64 x, .int .i64 y, .int .i64 z] 38)) = .ok .skip (w.alloc (.cells #[.int .i64 a, .int .i64 b, .int .i64 c] 38)) := by
  have h := run_storeAt_newV (P := Tryz.prog) w 38 38 #[.int .i64 x, .int .i64 y, .int .i64 z] #[.int .i64 a, .int .i64 b, .int .i64 c] (by kernel_rfl) rfl (by kernel_rfl)
  simp only [stT, Sem.run_bind, h, Result.andThen, Sem.run_pure]
section
variable {w : World} {S : Nat → Prop} {b : Nat} {m : Dk}
attribute [local go_sem ↓] exec_loadC exec_indexC exec_storeSt
attribute [local go_sem] indexC0 indexC1 st_stamp11
set_option maxRecDepth 100000 in
set_option maxHeartbeats 4000000 in
theorem clashes0 (h : Dsk w S b m) (hok : DkOk 300 m) (hm : m.seen = []) : Calls Tryz.prog 175 #[.pointer (some ⟨b, 0, none⟩)] w fun e w' => e = .returned (.bool false) ∧ Below w.heap.size w w' := by
  have HP := Lib.hid (dpaths_any h hok)
  rw [hm] at HP
  clear h hok hm
  go_enter Tryz.func175, Tryz.ntmps175
  go_wp2_with fail
  refine HP.out.mono ?_
  rintro e w1 ⟨v, ls, rfl, hp, -, hO, hB⟩
  have hl : ls = [] := by simpa using hp
  subst hl
  obtain ⟨q, c, rfl⟩ := own_sliceR hO
  have HB := Lib.hid hB
  clear hp hO hB
  go_wp2
  refine wp_loop_rounds 1 ?_
  rw [rounds_succ]
  go_wp2
  go_ret
  exact ⟨rfl, HB.out⟩
set_option maxRecDepth 100000 in
set_option maxHeartbeats 4000000 in
theorem hasRoom0 (h : Dsk w S b m) (hok : DkOk 300 m) (hm : m.seen = []) (hr : m.room = 500) (hC : CpA w) : Calls Tryz.prog 176 #[.pointer (some ⟨b, 0, none⟩), .int .i64 34] w fun e w' => e = .returned (.bool true) ∧ Below w.heap.size w w' := by
  have HP := Lib.hid (dpaths_any h hok)
  rw [hm] at HP
  have HST := Lib.hid (fun (u : World) (hu : Below w.heap.size w u) => dstat_any (h.of_below hu) (cpS 1))
  have hf : fileL m (cpS 1) = none := by unfold fileL findL; rw [hm]; rfl
  rw [hf] at HST
  have HRM := Lib.hid (fun (u : World) (hu : Below w.heap.size w u) => droom_any (h.of_below hu))
  rw [hr] at HRM
  have HC := Lib.hid (fun (u : World) (hu : Below w.heap.size w u) => (hC.on hu).cell 1 (by decide))
  clear h hok hm hr hC hf
  go_enter Tryz.func176, Tryz.ntmps176
  go_wp2_with fail
  refine HP.out.mono ?_
  rintro e w1 ⟨v, ls, rfl, hp, -, hO, hB⟩
  have hl : ls = [] := by simpa using hp
  subst hl
  obtain ⟨q, c, rfl⟩ := own_sliceR hO
  have HB := Lib.hid hB
  have cc := HC.out w1 hB
  have hcF : cpF 1 = .string (mkS (cpS 1)) := rfl
  rw [hcF] at cc
  clear hp hO hB
  go_wp2
  refine wp_loop_rounds 1 ?_
  rw [rounds_succ]
  go_wp2_with fail
  refine (HST.out w1 HB.out).mono ?_
  rintro e w2 ⟨rfl, hB2⟩
  have hX : Below w.heap.size w w2 := HB.out.trans (hB2.mono HB.out.size)
  obtain ⟨W3, hW3⟩ : ∃ W, w2.alloc (.cells #[.int .i64 0, .int .i64 0, .int .i64 0] 38) = W := ⟨_, rfl⟩
  have hB3 : Below w2.heap.size w2 W3 := by rw [← hW3]; exact below_newR _ _
  have k0 : W3.cell? ⟨w2.heap.size, 0, none⟩ = some (.int .i64 0) := by
    rw [← hW3]
    have := World.alloc_heap_new w2 (.cells #[.int .i64 0, .int .i64 0, .int .i64 0] 38)
    unfold World.cell?
    rw [this]
    simp
  have HX := Lib.hid (hX.trans (hB3.mono hX.size))
  have st := st_stamp11 w2 0 0 0 0 0 0
  rw [hW3] at st
  have z1 : max (34 : Int) 0 = 34 := by decide
  clear hB2 hX hB3 cc
  unfold stampV
  go_wp2
  go_quiet ((go_at_call 217; exact Calls.quiet_of_same ((HRM.out _ (HX.out.trans (((Dr.refl _).drewN _).below _))).mono fun e w' ⟨he, hw⟩ => ⟨he, hw.symm⟩)))
  have HX := Lib.hid (HX.out.trans (((Dr.refl _).drewN nq).below _))
  go_wp2
  go_ret
  exact ⟨rfl, HX.out⟩
end
end Go.Proofs.YtnmopjefjpifoaaGreatDoor
/- (*archive.Archive).Save of an archive without records, on a disk without files. -/
set_option maxRecDepth 100000
namespace Go.Proofs.YtnmopjefjpifoaaGreatDoor
open Go Go.RowKit

attribute [-go_sem] Sha.exec_store
section
variable {w w' : World} {S : Nat → Prop} {b N : Nat} {m : Dk}
theorem kq8_below11 (h : Kq8 S w w') (hS : ∀ k, S k → N ≤ k) (hN : N ≤ w.heap.size) : Below N w w' :=
  ⟨h.os, h.tape, h.output, h.size, fun k hk => h.block k (Nat.lt_of_lt_of_le hk hN) (fun x => by have := hS k x; omega)⟩
theorem sn_from11 (hS : ∀ k, S k → N ≤ k) {M K : Nat} (hM : N ≤ M) : ∀ k, SN S M K k → N ≤ k := fun k hk => by
  rcases hk with x | x
  · exact hS k x
  · exact Nat.le_trans hM x.1
theorem ArAt.gen11 {a mb : Nat} {gen : Int} (h : ArAt w a mb gen []) (g' : Int) : ArAt (w.setCell ⟨a, 0, none⟩ (.int .i64 g')) a mb g' [] ∧ Kp a w (w.setCell ⟨a, 0, none⟩ (.int .i64 g')) := by
  have hk : Kp a w (w.setCell ⟨a, 0, none⟩ (.int .i64 g')) := (Kp.refl _ _).setCell 0 _
  refine ⟨⟨?_, h.map.keep (hk.block _ h.map.lt (Ne.symm h.ne)), (fun e he => by cases he), h.good, h.inn, h.few⟩, hk⟩
  have hb := h.box
  obtain ⟨hlt, hx⟩ := Array.getElem?_eq_some_iff.1 hb
  show (w.heap.modify a _)[a]? = _
  rw [Array.getElem?_eq_getElem (by rw [Array.size_modify]; exact hlt), Array.getElem_modify_self, hx]
  rfl
end
section
variable {w : World} {S : Nat → Prop} {b : Nat} {m : Dk}
set_option maxRecDepth 100000 in
set_option maxHeartbeats 4000000 in
theorem refusal0 (h : Dsk w S b m) (hok : DkOk 300 m) (hm : m.seen = []) (hr : m.room = 500) (hC : CpA w) : Calls Tryz.prog 116 #[.pointer (some ⟨b, 0, none⟩), .int .i64 34] w fun e w' => e = .returned (.int .i64 0) ∧ Below w.heap.size w w' := by
  have H1 := Lib.hid (clashes0 h hok hm)
  have H2 := Lib.hid (fun (u : World) (hu : Below w.heap.size w u) => hasRoom0 (h.of_below hu) hok hm hr (hC.on hu))
  clear h hok hm hr hC
  go_enter Tryz.func116, Tryz.ntmps116
  go_wp2_with fail
  refine H1.out.mono ?_
  rintro e w1 ⟨rfl, hB1⟩
  have HB1 := Lib.hid hB1
  clear hB1
  go_wp2_with fail
  refine (H2.out w1 HB1.out).mono ?_
  rintro e w2 ⟨rfl, hB2⟩
  have HB2 := Lib.hid (HB1.out.trans (hB2.mono HB1.out.size))
  clear hB2
  go_wp2
  go_ret
  exact ⟨rfl, HB2.out⟩
theorem pB_pS (b : By) : pB (pS b) = b := by
  unfold pB pS
  rw [List.map_map]
  exact List.map_id _
/-- What is saved. -/
def awX : S8 := pS (encAr 1 [])
theorem awX_len : awX.length = 34 := by unfold awX; rw [pS_len]; exact enc1_len
attribute [local go_sem ↓] exec_loadC exec_indexC
attribute [local go_sem] indexC0 indexC1
theorem lsc_bytC {w : World} {q : Option Addr} {x : S8} {l : By} (h : Sl w q l) (hx : pB x = l) : LsC w q (bytC x) := fun j hj => by
  rw [bytC_pB, hx] at hj ⊢
  rw [List.length_map] at hj
  obtain ⟨c, o, e, hc⟩ := h j hj
  refine ⟨c, o, e, ?_⟩
  rw [hc, List.getElem?_map, List.getD_eq_getElem?_getD, List.getElem?_eq_getElem hj]
  rfl
set_option maxRecDepth 100000 in
set_option maxHeartbeats 8000000 in
theorem save0 (N a mb : Nat) (hA : ArAt w a mb 0 []) (hD : Dsk w S b aw0) (hC : CpA w) (hT : Tb w) (hc0 : 0 < N) (ha : N ≤ a) (hS : ∀ k, S k → N ≤ k) (hSa : ¬ S a) (hN : N ≤ w.heap.size) :
    Calls Tryz.prog 48 #[.pointer (some ⟨a, 0, none⟩), .pointer (some ⟨b, 0, none⟩), .int .i64 1] w fun e w' => e = .returned (.int .i64 0) ∧ Below N w w' ∧ ∃ S', Dsk w' S' b (aw4 awX) ∧ ∀ k, S' k → N ≤ k := by
  have HD := Lib.hid hD
  have HC := Lib.hid hC
  have HT := Lib.hid hT
  have HS := Lib.hid (And.intro hS hSa)
  have HN := Lib.hid (And.intro hN (And.intro ha hc0))
  have HCP := Lib.hid (copy_any hA)
  have HA := Lib.hid hA
  have c0 := hA.cell0
  have g1 : decide ((0 : Int) ≥ 1099511627776) = false := by decide
  clear hA hD hC hT hS hSa hN
  go_enter Tryz.func48, Tryz.ntmps48
  go_wp2_with fail
  clear c0
  refine HCP.out.mono ?_
  rintro e w1 ⟨a2, m2, rfl, hA2, hB1, ha2, hm2⟩
  have hw := HN.out
  obtain ⟨hA3, hk3⟩ := hA2.gen11 1
  have c2 := hA2.cell0
  have f2 : w1.frozen? ⟨a2, 0, none⟩ = false := by
    unfold World.frozen?
    rw [hA2.box]
    simp
  obtain ⟨w2, hw2⟩ : ∃ x, w1.setCell ⟨a2, 0, none⟩ (.int .i64 1) = x := ⟨_, rfl⟩
  rw [hw2] at hA3 hk3
  have hB2 : Below w.heap.size w w2 := hB1.trans (hk3.below ha2 hB1.size)
  have HBY := Lib.hid (bytesA_any 1 hA3 (by decide) (HT.out.on hB2))
  rw [show sortA [] = [] from by simp [sortA]] at HBY
  have HB2 := Lib.hid hB2
  have HA3 := Lib.hid hA3
  clear hA3 hk3 hB1 hB2 hA2
  go_wp2_with fail
  clear hw2 c2 f2
  refine HBY.out.mono ?_
  rintro e w3 ⟨v, rfl, hO, hB3⟩
  obtain ⟨q, c, rfl, hs, hq, hle⟩ := hO.shape
  rw [enc1_len] at hle ⊢
  have hX3 : Below w.heap.size w w3 := HB2.out.trans (hB3.mono HB2.out.size)
  have HX3 := Lib.hid hX3
  have HQ := Lib.hid (show ∀ cc oo, q = some ⟨cc, oo, none⟩ → w.heap.size ≤ cc ∧ cc < w3.heap.size from fun cc oo e => by
    have h := hO.lt cc (by rw [e]; rfl)
    have := HB2.out.size
    exact ⟨by omega, h.2⟩)
  have HSL := Lib.hid (And.intro hs (And.intro hq hle))
  have HRF := Lib.hid (refusal0 (HD.out.of_below hX3) (aw0_ok.mono (by decide)) rfl rfl (HC.out.on hX3))
  have HB3 := Lib.hid hB3
  clear hO hs hq hle hB3 hX3 HBY
  go_wp2_with fail
  refine HRF.out.mono ?_
  rintro e w4 ⟨rfl, hB4⟩
  have hX4 : Below w.heap.size w w4 := HX3.out.trans (hB4.mono HX3.out.size)
  have hD4 := HD.out.of_below hX4
  have hlow := HD.out.low
  have ld := cp_load (HC.out.on hX4)
  have hls4 : LsC w4 q (bytC awX) := lsc_bytC (HSL.out.1.of_below hB4) (pB_pS _)
  have hq4 : ∀ cc oo, q = some ⟨cc, oo, none⟩ → ¬ S cc ∧ cc < w4.heap.size := fun cc oo e => by
    have h := HQ.out cc oo e
    have := hB4.size
    exact ⟨fun hx => by have := hlow cc hx; omega, by omega⟩
  have hW1 := dwrite_any hD4 (aw0_ok.mono (by decide)) (by decide) (by decide) (by decide) (cpS 0) awX q c 1 (by decide) (by rw [awX_len]; decide) ⟨hls4, by rw [bytC_len, Nat.mul_one], fun cc oo e _ => hq4 cc oo e, HSL.out.2.1, by rw [awX_len]; exact HSL.out.2.2⟩
  rw [aw11_w1 awX awX_len, awX_len] at hW1
  have HW1 := Lib.hid hW1
  have HX4 := Lib.hid (And.intro hX4 hlow)
  have HL4 := Lib.hid (And.intro hls4 hq4)
  have ha2' := Lib.hid (show ¬ S a2 ∧ a2 < w4.heap.size from ⟨fun hx => by have := hlow a2 hx; omega, Nat.lt_of_lt_of_le HA3.out.lt (Nat.le_trans HB3.out.size hB4.size)⟩)
  have ca2 : w4.cell? ⟨a2, 0, none⟩ = some (.int .i64 1) := ((HA3.out.of_below HB3.out).of_below hB4).cell0
  have hA4 := HA.out.of_below hX4
  have ca := hA4.cell0
  have fa : w4.frozen? ⟨a, 0, none⟩ = false := by
    unfold World.frozen?
    rw [hA4.box]
    simp
  have HAA := Lib.hid (And.intro ca2 (And.intro ca (And.intro fa (show a < w4.heap.size from hA4.lt))))
  clear hB4 hX4 hD4 hlow hls4 hq4 hW1 HRF ca2 ca fa hA4
  go_wp2
  clear ld
  refine wp_loop_rounds 3 ?_
  rw [rounds_succ]
  go_wp2_with fail
  refine HW1.out.mono ?_
  rintro e w5 ⟨rfl, hD1, hk1⟩
  have HSY := Lib.hid (dsync_any hD1)
  rw [aw11_s1] at HSY
  have HD1 := Lib.hid hD1
  have HK1 := Lib.hid hk1
  clear hD1 hk1 HW1
  go_wp2_with fail
  refine HSY.out.mono ?_
  rintro e w6 ⟨rfl, hDs, hks⟩
  have HDS1 := Lib.hid hDs
  have HKS1 := Lib.hid hks
  clear hDs hks HSY
  have hk56 : ∀ k, k < w4.heap.size → ¬ S k → w6.heap[k]? = w4.heap[k]? ∧ ¬ SN (SN S w4.heap.size w5.heap.size) w5.heap.size w6.heap.size k ∧ k < w6.heap.size := fun k h1 h2 => by
    have h3 := HK1.out.size
    have h4 := HKS1.out.size
    have n1 : ¬ SN S w4.heap.size w5.heap.size k := fun hx => by rcases hx with hx | hx; exact h2 hx; omega
    refine ⟨(HKS1.out.block k (by omega) n1).trans (HK1.out.block k h1 h2), fun hx => ?_, by omega⟩
    rcases hx with hx | hx
    · exact n1 hx
    · omega
  have hls6 : LsC w6 q (bytC awX) := HL4.out.1.keep fun cc oo e _ => (hk56 cc (HL4.out.2 cc oo e).2 (HL4.out.2 cc oo e).1).1
  have hW2 := dwrite_any HDS1.out ((aw2_ok awX awX_len).mono (by decide)) (by decide) (by decide) (by decide) (cpS 1) awX q c 1 (by decide) (by rw [awX_len]; decide) ⟨hls6, by rw [bytC_len, Nat.mul_one], fun cc oo e _ => ⟨(hk56 cc (HL4.out.2 cc oo e).2 (HL4.out.2 cc oo e).1).2.1, (hk56 cc (HL4.out.2 cc oo e).2 (HL4.out.2 cc oo e).1).2.2⟩, HSL.out.2.1, by rw [awX_len]; exact HSL.out.2.2⟩
  rw [aw11_w2 awX awX_len, awX_len] at hW2
  have HW2 := Lib.hid hW2
  have HK56 := Lib.hid hk56
  clear hk56 hls6 hW2
  go_wp2
  rw [rounds_succ]
  go_wp2_with fail
  refine HW2.out.mono ?_
  rintro e w7 ⟨rfl, hD2, hk2⟩
  have HSY := Lib.hid (dsync_any hD2)
  rw [aw11_s2] at HSY
  have HD2 := Lib.hid hD2
  have HK2 := Lib.hid hk2
  clear hD2 hk2 HW2
  go_wp2_with fail
  refine HSY.out.mono ?_
  rintro e w8 ⟨rfl, hDs, hks⟩
  have HDS2 := Lib.hid hDs
  have HKS2 := Lib.hid hks
  clear hDs hks HSY
  obtain ⟨S2, hS2⟩ : ∃ x, SN (SN S w4.heap.size w5.heap.size) w5.heap.size w6.heap.size = x := ⟨_, rfl⟩
  rw [hS2] at HK56 HK2 HKS2 HDS2
  have hk78 : ∀ k, k < w4.heap.size → ¬ S k → w8.heap[k]? = w4.heap[k]? ∧ ¬ SN (SN S2 w6.heap.size w7.heap.size) w7.heap.size w8.heap.size k := fun k h1 h2 => by
    obtain ⟨i1, i2, i3⟩ := HK56.out k h1 h2
    have h3 := HK2.out.size
    have h4 := HKS2.out.size
    have n1 : ¬ SN S2 w6.heap.size w7.heap.size k := fun hx => by rcases hx with hx | hx; exact i2 hx; omega
    refine ⟨(HKS2.out.block k (by omega) n1).trans ((HK2.out.block k i3 i2).trans i1), fun hx => ?_⟩
    rcases hx with hx | hx
    · exact n1 hx
    · omega
  have ca2 : w8.cell? ⟨a2, 0, none⟩ = some (.int .i64 1) := by rw [World.cell?_of_block (w := w4) (hk78 a2 ha2'.out.2 ha2'.out.1).1]; exact HAA.out.1
  have ca : w8.cell? ⟨a, 0, none⟩ = some (.int .i64 0) := by rw [World.cell?_of_block (w := w4) (hk78 a HAA.out.2.2.2 HS.out.2).1]; exact HAA.out.2.1
  have fa : w8.frozen? ⟨a, 0, none⟩ = false := by rw [World.frozen?_of_block (w := w4) (hk78 a HAA.out.2.2.2 HS.out.2).1]; exact HAA.out.2.2.1
  have HNA := Lib.hid (hk78 a HAA.out.2.2.2 HS.out.2).2
  clear hk78
  go_wp2
  rw [rounds_succ]
  go_wp2
  go_ret
  have hN := HN.out
  have s4 : N ≤ w4.heap.size := Nat.le_trans hN.1 HX4.out.1.size
  have s5 := HK1.out.size
  have s6 := HKS1.out.size
  have s7 := HK2.out.size
  have s8 := HKS2.out.size
  have f1 := sn_from11 HS.out.1 s4 (K := w5.heap.size)
  have f2 := sn_from11 f1 (show N ≤ w5.heap.size by omega) (K := w6.heap.size)
  rw [hS2] at f2
  have f3 := sn_from11 f2 (show N ≤ w6.heap.size by omega) (K := w7.heap.size)
  have f4 := sn_from11 f3 (show N ≤ w7.heap.size by omega) (K := w8.heap.size)
  have b4 : Below N w w4 := HX4.out.1.mono hN.1
  have b5 := b4.trans (kq8_below11 HK1.out HS.out.1 s4)
  have b6 := b5.trans (kq8_below11 HKS1.out f1 (by omega))
  have b7 := b6.trans (kq8_below11 HK2.out f2 (by omega))
  have b8 := b7.trans (kq8_below11 HKS2.out f3 (by omega))
  have hka : Kq8 (fun k => k = a) w8 (w8.setCell ⟨a, 0, none⟩ (.int .i64 1)) := ⟨rfl, rfl, rfl, by simp, fun k _ hk => Below.heap_setCell _ _ _ _ hk⟩
  exact ⟨rfl, b8.setCell (show N ≤ a from hN.2.1) _, _, HDS2.out.apart hka (fun k hk e => by subst e; exact HNA.out hk), f4⟩
end
end Go.Proofs.YtnmopjefjpifoaaGreatDoor
/- bytes.Equal. -/
set_option maxRecDepth 100000
namespace Go.Proofs.YtnmopjefjpifoaaGreatDoor
open Go Go.RowKit
attribute [-go_sem] Sha.exec_store

theorem bytes_equal (l m : List (BitVec 8)) (p q : Option Addr) (c d : Nat) (w : World) (hs : Sl w p l) (ht : Sl w q m) (hp : p = none → c = 0) (hq : q = none → d = 0) :
    Calls Tryz.prog 138 #[.slice p l.length c, .slice q m.length d] w fun e w' => e = .returned (.bool (decide (l = m))) ∧ w = w' := by
  have h1 := conv_str w p l _ c hs rfl hp
  have h2 := conv_str w q m _ d ht rfl hq
  clear hs ht hp hq
  by_cases h : l = m
  · rw [decide_eq_true h]
    subst h
    go_enter Tryz.func138, Tryz.ntmps138
    go_wp2
    go_ret
    exact ⟨rfl, rfl⟩
  · have hf : Hid (decide (l = m) = false) := decide_eq_false h
    have hb := str_ne l m h
    clear h
    go_enter Tryz.func138, Tryz.ntmps138
    go_wp2
    go_ret
    exact ⟨by rw [hf.out]; rfl, rfl⟩
end Go.Proofs.YtnmopjefjpifoaaGreatDoor
/- archive.number, Load where both copies are the archive without records. -/
set_option maxRecDepth 100000
namespace Go.Proofs.YtnmopjefjpifoaaGreatDoor
open Go Go.RowKit

attribute [-go_sem] Sha.exec_store
section
variable {w : World} {S : Nat → Prop} {b : Nat}
attribute [local go_sem ↓] exec_loadC exec_indexC
attribute [local go_sem] indexC0 indexC1
theorem aw_read0 (h : Dsk w S b (aw4 awX)) (p : S8) (hp : p = cpS 0 ∨ p = cpS 1) : Calls Tryz.prog 71 #[.pointer (some ⟨b, 0, none⟩), .string (mkS p)] w fun e w' => ∃ q c, e = .returned (.tuple #[.slice q 34 c, .int .i64 0]) ∧ Sl w' q (encAr 1 []) ∧ (q = none → c = 0) ∧ 34 ≤ c ∧ Below w.heap.size w w' := by
  have hr : readL (aw4 awX) p = some awX := by
    rcases hp with rfl | rfl
    · exact aw11_r0 _
    · exact aw11_r1 _
  have HR := dread_any h ((aw4_ok awX awX_len).mono (by decide)) p
  rw [show readN (aw4 awX) p = 0 by unfold readN; rw [hr]; rfl, hr] at HR
  refine HR.mono ?_
  rintro e w' ⟨v, rfl, hO, hB⟩
  simp only [Option.getD_some] at hO
  obtain ⟨q, c, rfl, hl, hq, hc, -⟩ := own_shape hO
  rw [awX_len] at hc ⊢
  refine ⟨q, c, rfl, ?_, hq, hc, hB⟩
  have := sl_bytC hl
  rwa [show pB awX = encAr 1 [] from pB_pS _] at this
set_option maxRecDepth 100000 in
set_option maxHeartbeats 8000000 in
theorem number2 (h : Dsk w S b (aw4 awX)) (hC : CpA w) (q0 : Option Addr) (k0 : Nat) (hs : Sl w q0 (encAr 1 [])) (hq : q0 = none → k0 = 0) : Calls Tryz.prog 72 #[.pointer (some ⟨b, 0, none⟩), .slice q0 34 k0] w fun e w' => e = .returned (.int .i64 2) ∧ Below w.heap.size w w' := by
  have ld := cp_load hC
  have HR := Lib.hid (fun (u : World) (hu : Below w.heap.size w u) => aw_read0 (h.of_below hu))
  have HS := Lib.hid (fun (u : World) (hu : Below w.heap.size w u) => hs.of_below hu)
  have HQ := Lib.hid hq
  have HX := Lib.hid (Below.refl w.heap.size w)
  have HE := Lib.hid (fun (q1 : Option Addr) (c1 : Nat) (u : World) (h1 : Sl u q1 (encAr 1 [])) (h2 : Sl u q0 (encAr 1 [])) (e1 : q1 = none → c1 = 0) (e2 : q0 = none → k0 = 0) => (show Calls Tryz.prog 138 #[.slice q1 34 c1, .slice q0 34 k0] u fun e w' => e = .returned (.bool true) ∧ u = w' from by
    have h := bytes_equal (encAr 1 []) (encAr 1 []) q1 q0 c1 k0 u h1 h2 e1 e2
    rw [enc1_len, show decide (encAr 1 [] = encAr 1 []) = true from decide_eq_true rfl] at h
    exact h))
  clear h hC hs hq
  go_enter Tryz.func72, Tryz.ntmps72
  go_wp2
  clear ld
  refine wp_loop_rounds 3 ?_
  rw [rounds_succ]
  go_wp2_with fail
  refine (HR.out _ HX.out (cpS 0) (.inl rfl)).mono ?_
  rintro e w1 ⟨q1, c1, rfl, hs1, hq1, hc1, hB1⟩
  have HX := Lib.hid (HX.out.trans (hB1.mono HX.out.size))
  have HEE := Lib.hid (HE.out q1 c1 w1 hs1 (HS.out w1 HX.out) hq1 HQ.out)
  clear hs1 hq1 hc1 hB1
  go_wp2_with fail
  refine HEE.out.mono ?_
  rintro e w2 ⟨rfl, rfl⟩
  go_wp2
  rw [rounds_succ]
  go_wp2_with fail
  refine (HR.out _ HX.out (cpS 1) (.inr rfl)).mono ?_
  rintro e w2 ⟨q2, c2, rfl, hs1, hq1, hc1, hB1⟩
  have HX := Lib.hid (HX.out.trans (hB1.mono HX.out.size))
  have HEE := Lib.hid (HE.out q2 c2 w2 hs1 (HS.out w2 HX.out) hq1 HQ.out)
  clear hs1 hq1 hc1 hB1
  go_wp2_with fail
  refine HEE.out.mono ?_
  rintro e w3 ⟨rfl, rfl⟩
  go_wp2
  rw [rounds_succ]
  go_wp2
  go_ret
  exact ⟨rfl, HX.out⟩
theorem par1 (q : Option Addr) (cap : Nat) (w : World) (hs : Sl w q (encAr 1 [])) (hq : q = none → cap = 0) (hc : 34 ≤ cap) (hT : Tb w) :
    Calls Tryz.prog 23 #[.slice q 34 cap] w fun e w' => ∃ a mb, e = .returned (.tuple #[.pointer (some ⟨a, 0, none⟩), .int .i64 0]) ∧ ArAt w' a mb 1 [] ∧ Below w.heap.size w w' := by
  refine (parseA_any (encAr 1 []) q 34 cap w enc1_len hs hq hc (by decide) hT).mono ?_
  rintro e w' ⟨hB, h | ⟨-, b, mb, g, bs, d, es, rfl, hA, ht, hl, -⟩⟩
  · exact absurd parseA1 h.1
  · rw [takeAr1] at ht
    injection ht with ht
    injection ht with h1 _
    injection h1 with h2 h3
    injection h3 with h4 _
    subst h2 h4
    obtain rfl : es = [] := List.length_eq_zero_iff.1 (by simpa using hl)
    exact ⟨b, mb, rfl, hA, hB⟩
set_option maxRecDepth 100000 in
set_option maxHeartbeats 8000000 in
theorem load2 (h : Dsk w S b (aw4 awX)) (hC : CpA w) (hT : Tb w) : Calls Tryz.prog 24 #[.pointer (some ⟨b, 0, none⟩)] w fun e w' => ∃ a mb, e = .returned (.tuple #[.pointer (some ⟨a, 0, none⟩), .int .i64 2, .int .i64 0]) ∧ ArAt w' a mb 1 [] ∧ Below w.heap.size w w' := by
  have ld := cp_load hC
  have HR := Lib.hid (fun (u : World) (hu : Below w.heap.size w u) => aw_read0 (h.of_below hu))
  have HNM := Lib.hid (fun (u : World) (hu : Below w.heap.size w u) => number2 (h.of_below hu) (hC.on hu))
  have HT := Lib.hid (fun (u : World) (hu : Below w.heap.size w u) => hT.on hu)
  have HX := Lib.hid (Below.refl w.heap.size w)
  clear h hC hT
  go_enter Tryz.func24, Tryz.ntmps24
  go_wp2
  clear ld
  refine wp_loop_rounds 3 ?_
  rw [rounds_succ]
  go_wp2_with fail
  refine (HR.out _ HX.out (cpS 0) (.inl rfl)).mono ?_
  rintro e w1 ⟨q1, c1, rfl, hs1, hq1, hc1, hB1⟩
  have HX := Lib.hid (HX.out.trans (hB1.mono HX.out.size))
  have HP := Lib.hid (par1 q1 c1 w1 hs1 hq1 hc1 (HT.out _ HX.out))
  clear hs1 hq1 hc1 hB1
  go_wp2_with fail
  refine HP.out.mono ?_
  rintro e w2 ⟨a1, m1, rfl, hA1, hB2⟩
  have HX := Lib.hid (HX.out.trans (hB2.mono HX.out.size))
  have HA1 := Lib.hid hA1
  clear hA1 hB2 HP
  go_wp2
  go_quiet (fail)
  have hd1 : Below w2.heap.size w2 (w2.drewN nq) := ((Dr.refl _).drewN nq).below _
  have HX := Lib.hid (HX.out.trans (hd1.mono HX.out.size))
  have HA1 := Lib.hid (HA1.out.of_below hd1)
  clear hd1
  go_wp2
  rw [rounds_succ]
  go_wp2_with fail
  refine (HR.out _ HX.out (cpS 1) (.inr rfl)).mono ?_
  rintro e w3 ⟨q2, c2, rfl, hs1, hq1, hc1, hB1⟩
  have HA1 := Lib.hid (HA1.out.of_below hB1)
  have HX := Lib.hid (HX.out.trans (hB1.mono HX.out.size))
  have HP := Lib.hid (par1 q2 c2 w3 hs1 hq1 hc1 (HT.out _ HX.out))
  clear hs1 hq1 hc1 hB1
  go_wp2_with fail
  refine HP.out.mono ?_
  rintro e w4 ⟨a2, m2, rfl, hA2, hB2⟩
  have HA1 := Lib.hid (HA1.out.of_below hB2)
  have HX := Lib.hid (HX.out.trans (hB2.mono HX.out.size))
  have k1 := HA1.out.cell0
  have k2 := hA2.cell0
  clear hA2 hB2 HP
  go_wp2
  go_quiet (fail)
  have hd1 : Below w4.heap.size w4 (w4.drewN nq) := ((Dr.refl _).drewN nq).below _
  have HX := Lib.hid (HX.out.trans (hd1.mono HX.out.size))
  have HA1 := Lib.hid (HA1.out.of_below hd1)
  clear hd1 k1 k2
  generalize w4.drewN nq = w5 at *
  have HBY := Lib.hid (bytesA_any 1 HA1.out (by decide) (HT.out _ HX.out))
  rw [show sortA [] = [] from by simp [sortA]] at HBY
  go_wp2
  rw [rounds_succ]
  go_wp2_with fail
  refine HBY.out.mono ?_
  rintro e w6 ⟨v, rfl, hO, hB6⟩
  obtain ⟨q3, c3, rfl, hs3, hq3, -⟩ := hO.shape
  rw [enc1_len]
  have HA1 := Lib.hid (HA1.out.of_below hB6)
  have HX := Lib.hid (HX.out.trans (hB6.mono HX.out.size))
  have HN := Lib.hid (HNM.out _ HX.out q3 c3 hs3 hq3)
  clear hO hs3 hq3 hB6 HBY
  go_wp2_with fail
  refine HN.out.mono ?_
  rintro e w7 ⟨rfl, hB7⟩
  have HA1 := Lib.hid (HA1.out.of_below hB7)
  have HX := Lib.hid (HX.out.trans (hB7.mono HX.out.size))
  clear hB7
  go_wp2
  go_ret3
  exact ⟨_, _, rfl, HA1.out, HX.out⟩
end
end Go.Proofs.YtnmopjefjpifoaaGreatDoor
/- darnerlaw11.awake. -/
set_option maxRecDepth 100000
namespace Go.Proofs.YtnmopjefjpifoaaGreatDoor
open Go Go.RowKit

attribute [-go_sem] Sha.exec_store
set_option maxRecDepth 100000 in
set_option maxHeartbeats 8000000 in
theorem awake11 (w : World) (hC : CpA w) (hT : Tb w) : Calls Tryz.prog 9 #[] w fun e w' => e = .returned (.bool true) ∧ Below w.heap.size w w' := by
  have HNW := Lib.hid (anew_any w)
  have HC := Lib.hid (fun (u : World) (hu : Below w.heap.size w u) => hC.on hu)
  have HT := Lib.hid (fun (u : World) (hu : Below w.heap.size w u) => hT.on hu)
  have HLT := Lib.hid (show 0 < w.heap.size from hC.lt)
  have ha : (ByteArray.mk #[46, 112, 97, 114, 126, 97, 114, 99, 104, 105, 118, 101, 46, 49]) = mkS (cpS 1) := mkS_lit (cpS 1)
  have hk1 : (cpS 1 == cpS 0 || cpS 1 == cpS 1) = true := by decide
  clear hC hT
  go_enter Tryz.func9, Tryz.ntmps9
  go_wp2_with fail
  refine HNW.out.mono ?_
  rintro e w1 ⟨rfl, hA, hB1⟩
  have HD0 := Lib.hid (dnew_any 500 w1)
  rw [show clampL 500 = 500 by decide] at HD0
  have HA := Lib.hid hA
  have HX := Lib.hid hB1
  clear hA hB1 HNW
  go_wp2_with fail
  refine HD0.out.mono ?_
  rintro e w2 ⟨b, rfl, hD, hB2⟩
  have hX2 := HX.out.trans (hB2.mono HX.out.size)
  have hA2 := HA.out.of_below hB2
  have HLN := Lib.hid (alen_any hA2)
  have HSV := Lib.hid (save0 w.heap.size (w.heap.size + 1) w.heap.size hA2 hD (HC.out _ hX2) (HT.out _ hX2) HLT.out (Nat.le_succ _) (fun k hk => by have := HX.out.size; omega) (fun hk => by have := HA.out.lt; omega) hX2.size)
  have HX2 := Lib.hid hX2
  clear hD hB2 hX2 hA2 HD0
  go_wp2_with fail
  refine HLN.out.mono ?_
  rintro e w3 ⟨rfl, rfl⟩
  go_wp2_with fail
  refine HSV.out.mono ?_
  rintro e w3 ⟨rfl, hB3, S', hD3, -⟩
  have HX3 := Lib.hid (HX2.out.trans hB3)
  have HLD := Lib.hid (load2 hD3 (HC.out _ HX3.out) (HT.out _ HX3.out))
  clear hB3 hD3 HSV HLN
  go_wp2_with fail
  refine HLD.out.mono ?_
  rintro e w4 ⟨a, mb, rfl, hA4, hB4⟩
  have HX4 := Lib.hid (HX3.out.trans (hB4.mono HX3.out.size))
  have HGN := Lib.hid (agen_any hA4)
  have HKN := Lib.hid (known_any (cpS 1) w4 (HC.out _ HX4.out))
  rw [hk1] at HKN
  clear hA4 hB4 HLD
  go_wp2_with fail
  refine HGN.out.mono ?_
  rintro e w5 ⟨rfl, rfl⟩
  go_wp2_with fail
  refine HKN.out.mono ?_
  rintro e w5 ⟨rfl, rfl⟩
  go_wp2
  go_ret
  exact ⟨rfl, HX4.out⟩
end Go.Proofs.YtnmopjefjpifoaaGreatDoor
/- ArchiveNone. -/
set_option linter.unusedSimpArgs false
set_option maxRecDepth 100000
set_option linter.unusedVariables false
namespace Go.Proofs.YtnmopjefjpifoaaGreatDoor
open Go Go.RowKit

attribute [-go_sem] Sha.exec_store
set_option maxHeartbeats 1000000 in
theorem path0 (w : World) : Calls Tryz.prog 22 #[.int .i64 0] w fun e w' => e = .returned (.string (mkS (cpS 0))) ∧ w = w' := by
  go_enter Tryz.func22, Tryz.ntmps22
  go_wp2
  go_ret
  exact ⟨congrArg (fun s => Ending.returned (Value.string s)) (mkS_lit (cpS 0)), rfl⟩
set_option maxHeartbeats 1000000 in
theorem path1 (w : World) : Calls Tryz.prog 22 #[.int .i64 1] w fun e w' => e = .returned (.string (mkS (cpS 1))) ∧ w = w' := by
  go_enter Tryz.func22, Tryz.ntmps22
  go_wp2
  go_ret
  exact ⟨congrArg (fun s => Ending.returned (Value.string s)) (mkS_lit (cpS 1)), rfl⟩
def nw0 : Dk := ⟨5000, 0, [], [], [], []⟩
def nf (i n : Nat) (x : S8) : Fl := ⟨cpS i, n, (x.length : Int), 0, (n : Int) + 1⟩
def nw10 (x : S8) : Dk := ⟨5000, 1, [x], [nf 0 0 x], [], [⟨1, [], nf 0 0 x⟩]⟩
def nw01 (x : S8) : Dk := ⟨5000, 1, [x], [nf 1 0 x], [], [⟨1, [], nf 1 0 x⟩]⟩
def nw11 (x y : S8) : Dk := ⟨5000, 2, [x, y], [nf 0 0 x, nf 1 1 y], [], [⟨1, [], nf 0 0 x⟩, ⟨1, [], nf 1 1 y⟩]⟩
theorem nw_w10 (x : S8) (hx : x.length ≤ 200) : writeL nw0 (cpS 0) x 0 = (nw10 x, 0) := by
  have h1 : ¬ 262144 < x.length := by omega
  have h2 : ¬ (5000 : Int) < (x.length : Int) := by omega
  unfold writeL
  rw [cp_good0]
  simp [h1, h2, nw0, clashesL, findL, leftL, usedL, changeL, doL, withoutL, nw10, nf]
theorem nw_w01 (x : S8) (hx : x.length ≤ 200) : writeL nw0 (cpS 1) x 0 = (nw01 x, 0) := by
  have h1 : ¬ 262144 < x.length := by omega
  have h2 : ¬ (5000 : Int) < (x.length : Int) := by omega
  unfold writeL
  rw [cp_good1]
  simp [h1, h2, nw0, clashesL, findL, leftL, usedL, changeL, doL, withoutL, nw01, nf]
theorem nw_w11 (x y : S8) (hx : x.length ≤ 200) (hy : y.length ≤ 200) : writeL (nw10 x) (cpS 1) y 0 = (nw11 x y, 0) := by
  have h1 : ¬ 262144 < y.length := by omega
  have h2 : ¬ (5000 : Int) - (x.length : Int) < (y.length : Int) := by omega
  unfold writeL
  rw [cp_good1]
  simp [h1, h2, nw10, clashesL, findL, leftL, usedL, changeL, doL, withoutL, nw11, nf, bodyD, cp_cl, cp_eq, cp_ne]
theorem nw_r00 : readL nw0 (cpS 0) = none := rfl
theorem nw_r01 : readL nw0 (cpS 1) = none := rfl
theorem nw_q0 (x : S8) : readL (nw01 x) (cpS 0) = none := by simp [readL, nw01, findL, nf, bodyD, List.findIdx?_cons, cp_eq']
theorem nw_q1 (x : S8) : readL (nw01 x) (cpS 1) = some x := by simp [readL, nw01, findL, nf, bodyD, List.findIdx?_cons]
theorem nw_p0 (x : S8) : readL (nw10 x) (cpS 0) = some x := by simp [readL, nw10, findL, nf, bodyD, List.findIdx?_cons]
theorem nw_p1 (x : S8) : readL (nw10 x) (cpS 1) = none := by simp [readL, nw10, findL, nf, bodyD, List.findIdx?_cons, cp_eq]
theorem nw_s0 (x y : S8) : readL (nw11 x y) (cpS 0) = some x := by simp [readL, nw11, findL, nf, bodyD, List.findIdx?_cons]
theorem nw_s1 (x y : S8) : readL (nw11 x y) (cpS 1) = some y := by simp [readL, nw11, findL, nf, bodyD, List.findIdx?_cons, cp_eq]
theorem nw0_ok : DkOk 0 nw0 := DkOk.zero 5000
theorem nw10_ok (x : S8) (hx : x.length ≤ 200) : DkOk 1 (nw10 x) := by
  have := nw0_ok.write (cpS 0) x 0
  rw [nw_w10 x hx] at this
  exact this
theorem nw01_ok (x : S8) (hx : x.length ≤ 200) : DkOk 1 (nw01 x) := by
  have := nw0_ok.write (cpS 1) x 0
  rw [nw_w01 x hx] at this
  exact this
theorem nw11_ok (x y : S8) (hx : x.length ≤ 200) (hy : y.length ≤ 200) : DkOk 2 (nw11 x y) := by
  have := (nw10_ok x hx).write (cpS 1) y 0
  rw [nw_w11 x y hx hy] at this
  exact this
set_option maxRecDepth 100000 in
set_option maxHeartbeats 16000000 in
theorem none_go (w : World) (hC : CpA w) (hT : Tb w) (l0 l1 : By) (q0 q1 : Option Addr) (n0 n1 c0 c1 : Nat) (v : Nat) (e0 : l0.length = n0) (e1 : l1.length = n1) (hs0 : Sl w q0 l0) (hs1 : Sl w q1 l1)
    (hq0 : q0 = none → c0 = 0) (hq1 : q1 = none → c1 = 0) (hc0 : n0 ≤ c0) (hc1 : n1 ≤ c1) (h0 : n0 ≤ 200) (h1 : n1 ≤ 200) :
    Calls Tryz.prog 4 #[.agg #[.slice q0 n0 c0, .slice q1 n1 c1], .int .u8 (v : Int)] w fun e w' => e = .returned (.bool true) ∧ Below w.heap.size w w' := by
  have hb : Below w.heap.size w (w.alloc (.cells #[.slice q0 n0 c0, .slice q1 n1 c1] 54)) := below_newR _ _
  obtain ⟨W0, hW0⟩ : ∃ x, w.alloc (.cells #[.slice q0 n0 c0, .slice q1 n1 c1] 54) = x := ⟨_, rfl⟩
  obtain ⟨M, hM⟩ : ∃ x, w.heap.size = x := ⟨_, rfl⟩
  have hz0 : W0.heap.size = M + 1 := by rw [← hW0, World.size_alloc, hM]
  rw [hW0] at hb
  have HAW := Lib.hid (awake11 W0 (hC.on hb) (hT.on hb))
  have d0 : ¬ (200 : Int) < (n0 : Int) := by omega
  have d1 : ¬ (200 : Int) < (n1 : Int) := by omega
  have g0 : decide ((200 : Int) < (n0 : Int)) = false := decide_eq_false d0
  have g1 : decide ((200 : Int) < (n1 : Int)) = false := decide_eq_false d1
  have HK := Lib.hid (fun (u : World) (hu : Below (M + 1) W0 u) => (show u.cell? ⟨M, 0, none⟩ = some (.slice q0 n0 c0) ∧ u.cell? ⟨M, 1, none⟩ = some (.slice q1 n1 c1) from by
    have hx := World.alloc_heap_new w (.cells #[.slice q0 n0 c0, .slice q1 n1 c1] 54)
    rw [hW0, hM] at hx
    have hy : u.heap[M]? = _ := (hu.block M (by omega)).trans hx
    unfold World.cell?
    rw [hy]
    simp))
  have hbM : ∀ u, Below (M + 1) W0 u → Below w.heap.size w u := fun u hu => hb.trans (hu.mono (by omega))
  have HT := Lib.hid (fun (u : World) (hu : Below (M + 1) W0 u) => (show CpA u ∧ Tb u from ⟨hC.on (hbM u hu), hT.on (hbM u hu)⟩))
  have HS := Lib.hid (fun (u : World) (hu : Below (M + 1) W0 u) => And.intro (hs0.of_below (hbM u hu)) (hs1.of_below (hbM u hu)))
  have HS0 := Lib.hid (And.intro hs0 hs1)
  have HQ := Lib.hid (show (∀ cc oo, q0 = some ⟨cc, oo, none⟩ → 0 < l0.length → cc < M) ∧ (∀ cc oo, q1 = some ⟨cc, oo, none⟩ → 0 < l1.length → cc < M) from
    ⟨fun cc oo e h => by
      obtain ⟨c', o', e', hx⟩ := hs0 0 h
      rw [e] at e'; injection e' with e'; injection e' with e2 _; subst e2
      rw [← hM]; exact World.block_lt_of_cell? w _ hx,
    fun cc oo e h => by
      obtain ⟨c', o', e', hx⟩ := hs1 0 h
      rw [e] at e'; injection e' with e'; injection e' with e2 _; subst e2
      rw [← hM]; exact World.block_lt_of_cell? w _ hx⟩)
  have HZ0 := Lib.hid hz0
  have HBM := Lib.hid (show ∀ u, Below (M + 1) W0 u → Below M w u from fun u hu => by rw [← hM]; exact hbM u hu)
  clear hb hC hT hs0 hs1 hbM hz0
  go_enter Tryz.func4, Tryz.ntmps4
  try rw [hM]
  go_wp2_with fail
  refine HAW.out.mono ?_
  rintro e w1 ⟨rfl, hB1⟩
  rw [HZ0.out] at hB1
  obtain ⟨k0, k1⟩ := HK.out w1 hB1
  have HB1 := Lib.hid hB1
  have HDN := Lib.hid (dnew_any 5000 w1)
  rw [show clampL 5000 = 5000 by decide] at HDN
  clear hB1 HAW
  go_wp2_with fail
  clear k0 k1 hW0
  refine HDN.out.mono ?_
  rintro e w2 ⟨b, rfl, hD, hB2⟩
  have HY := Lib.hid (HB1.out.trans (hB2.mono (by have := HB1.out.size; have := HZ0.out; omega)))
  have HD := Lib.hid (show ∃ S, Dsk w2 S b (nw0) ∧ ∀ k, S k → M + 1 ≤ k from ⟨_, hD, fun k hk => by have := HB1.out.size; have := HZ0.out; omega⟩)
  clear hD hB2 HDN
  go_wp2
  refine wp_loop_rounds 3 ?_
  rw [rounds_succ]
  cases f0 : (bits BinOp.and IntKind.u8 (v : Int) 1 == 1) with
  | false =>
    go_wp2
    rw [rounds_succ]
    cases f1 : (bits BinOp.and IntKind.u8 ((v : Int) / 2) 1 == 1) with
    | false =>
      go_wp2
      rw [rounds_succ]
      go_wp2_with fail
      obtain ⟨Sx, hDx, -⟩ := HD.out
      have hl := load_none hDx ((nw0_ok).mono (by decide)) (HT.out _ HY.out).1 (HT.out _ HY.out).2 (fun x hx => by rw [nw_r00] at hx; cases hx) (fun x hx => by rw [nw_r01] at hx; cases hx)
      rw [nw_r00, nw_r01] at hl
      refine hl.mono ?_
      rintro e wz ⟨rfl, hBz⟩
      have HZZ := Lib.hid (HBM.out wz (HY.out.trans (hBz.mono (by have := HY.out.size; have := HZ0.out; omega))))
      clear hl hDx hBz
      go_wp2
      go_ret
      exact ⟨rfl, HZZ.out⟩
    | true =>
      go_wp2
      have HY := Lib.hid (HY.out.drew)
      have HD := Lib.hid (show ∃ S, Dsk w2.drew S b (nw0) ∧ ∀ k, S k → M + 1 ≤ k from by
        obtain ⟨Sx, h1, h2⟩ := HD.out
        exact ⟨Sx, h1.of_below (Below.refl _ _).drew, h2⟩)
      refine wp_region_noPanic ?_
      refine wp_region_any (by kernel_rfl) ?_
      try (change wpAny _ _ _ _ _ _ _ (World.drew _))
      generalize w2.drew = x at HY HD ⊢
      refine wpAny_take (i := 0) (v := ?_) rfl (by kernel_rfl) (by kernel_rfl) (by kernel_rfl) (fun _ _ _ h => h) (Or.inl ⟨by rfl, ?_⟩) ?_
      rotate_left 1
      · (intro w; go_simp; try with_reducible rfl)
      try simp only [Act.put, List.setIfInBounds_toArray, List.set_cons_zero, List.set_cons_succ]
      refine wpAny_take (i := 1) (v := ?_) rfl (by kernel_rfl) (by kernel_rfl) (by kernel_rfl) (fun _ _ _ h => h) (Or.inl ⟨by rfl, ?_⟩) ?_
      rotate_left 1
      · (intro w; go_simp; try with_reducible rfl)
      try simp only [Act.put, List.setIfInBounds_toArray, List.set_cons_zero, List.set_cons_succ]
      refine wpAny_take (i := 3) (v := ?_) rfl (by kernel_rfl) (by kernel_rfl) (by kernel_rfl) (fun _ _ _ h => h) (Or.inl ⟨by rfl, ?_⟩) ?_
      rotate_left 1
      · (intro w; go_simp; try with_reducible rfl)
      try simp only [Act.put, List.setIfInBounds_toArray, List.set_cons_zero, List.set_cons_succ]
      refine wpAny_take (i := 4) (v := ?_) rfl (by kernel_rfl) (by kernel_rfl) (by kernel_rfl) (fun _ _ _ h => h) (Or.inl ⟨by rfl, ?_⟩) ?_
      rotate_left 1
      · (intro w; go_simp; try with_reducible rfl)
      try simp only [Act.put, List.setIfInBounds_toArray, List.set_cons_zero, List.set_cons_succ]
      refine wpAny_ready (rs := [2, 5]) (by kernel_rfl) (by simp) ?_
      refine (AllReady.cons (by simp only [List.getElem?_toArray, List.getElem?_cons_succ, List.getElem?_cons_zero]; exact rfl) (fun K hK => ?_) (AllReady.cons (by simp only [List.getElem?_toArray, List.getElem?_cons_succ, List.getElem?_cons_zero]; exact rfl) (fun K hK => ?_) AllReady.nil))
      · go_simp
        refine (path1 x).mono ?_
        rintro e y ⟨rfl, rfl⟩
        have HKK := Lib.hid hK
        clear hK
        go_wp2_with fail
        refine HKK.out _ _ ?_
        clear HKK K
        try simp only [Act.put, List.setIfInBounds_toArray, List.set_cons_zero, List.set_cons_succ]
        refine wpAny_ready (rs := [5]) (by kernel_rfl) (by simp) ?_
        refine (AllReady.cons (by simp only [List.getElem?_toArray, List.getElem?_cons_succ, List.getElem?_cons_zero]; exact rfl) (fun K hK => ?_) AllReady.nil)
        have hcc := (HK.out _ HY.out).2
        go_simp
        refine hK _ _ ?_
        clear hK K hcc
        try simp only [Act.put, List.setIfInBounds_toArray, List.set_cons_zero, List.set_cons_succ]
        refine wpAny_ready (rs := [6]) (by kernel_rfl) (by simp) ?_
        refine (AllReady.cons (by simp only [List.getElem?_toArray, List.getElem?_cons_succ, List.getElem?_cons_zero]; exact rfl) (fun K hK => ?_) AllReady.nil)
        go_simp
        obtain ⟨Sx, hDx, hSx⟩ := HD.out
        have hsx := (HS.out _ HY.out).2
        have hw := dwrite_any hDx ((nw0_ok).mono (by decide)) (by simp [nw0, nw10]) (by simp [nw0, nw10]) (by simp [nw0, nw10]) (cpS 1) (pS l1) q1 c1 0 (by decide) (by rw [pS_len]; omega) ⟨lsc_bytC hsx (pB_pS l1), by rw [bytC_len, Nat.mul_one], fun cc oo e h => ⟨fun hx => by
            have h1 := hSx cc hx
            obtain ⟨c', o', e', -⟩ := HS0.out.2 0 (by rw [bytC_len, pS_len] at h; exact h)
            have h2 := HQ.out.2 cc oo e (by rw [bytC_len, pS_len] at h; exact h)
            omega, by have h2 := HQ.out.2 cc oo e (by rw [bytC_len, pS_len] at h; exact h); have := HY.out.size; have := HZ0.out; omega⟩, hq1, by rw [pS_len]; omega⟩
        rw [nw_w01 (pS l1) (by rw [pS_len]; omega), show (pS l1).length = n1 by rw [pS_len]; exact e1] at hw
        refine hw.mono ?_
        rintro e y ⟨rfl, hDn, hkn⟩
        have hYn := HY.out.trans (kq8_below11 hkn hSx (by have := HY.out.size; have := HZ0.out; omega))
        have HD := Lib.hid (show ∃ S, Dsk y S b (nw01 (pS l1)) ∧ ∀ k, S k → M + 1 ≤ k from ⟨_, hDn, sn_from11 hSx (by have := HY.out.size; have := HZ0.out; omega)⟩)
        have HYN := Lib.hid hYn
        clear hDx hSx hsx hw hDn hkn hYn
        have HKK := Lib.hid hK
        clear hK
        go_wp2_with fail
        refine HKK.out _ _ ?_
        clear HKK K
        have HY := HYN
        try simp only [Act.put, List.setIfInBounds_toArray, List.set_cons_zero, List.set_cons_succ]
        refine wpAny_done (by kernel_rfl) ?_ _
        refine NoPanic.normal ?_
        have kk := (HK.out _ HY.out).2
        have HPA := Lib.hid (parseA_any l1 q1 n1 c1 y e1 (HS.out _ HY.out).2 hq1 hc1 (by omega) (HT.out _ HY.out).2)
        go_wp2_with fail
        clear kk
        refine HPA.out.mono ?_
        rintro e wp ⟨hBp, ⟨hne, rfl⟩ | ⟨hz, hok⟩⟩
        · have HY := Lib.hid (HY.out.trans (hBp.mono (by have := HY.out.size; have := HZ0.out; omega)))
          have HD := Lib.hid (show ∃ S, Dsk wp S b (nw01 (pS l1)) ∧ ∀ k, S k → M + 1 ≤ k from by
            obtain ⟨Sx, h1, h2⟩ := HD.out
            exact ⟨Sx, h1.of_below hBp, h2⟩)
          have HN1 := Lib.hid hne
          obtain ⟨k1, hk1⟩ : ∃ k, parseA l1 = k := ⟨_, rfl⟩
          rw [hk1] at hne ⊢
          have hz1 : ¬ (k1 : Int) = 0 := by omega
          have hd1 : decide ((k1 : Int) = 0) = false := decide_eq_false hz1
          have he1 : ((k1 : Int) == 0) = false := by simp; omega
          clear hBp hk1 hne HPA
          go_wp2
          rw [rounds_succ]
          go_wp2_with fail
          obtain ⟨Sx, hDx, -⟩ := HD.out
          have hl := load_none hDx ((nw01_ok (pS l1) (by rw [pS_len]; omega)).mono (by decide)) (HT.out _ HY.out).1 (HT.out _ HY.out).2 (fun x hx => by rw [nw_q0 (pS l1)] at hx; cases hx) (fun x hx => by rw [nw_q1 (pS l1)] at hx; injection hx with hx; subst hx; exact ⟨by rw [pS_len]; omega, by rw [pB_pS]; exact HN1.out⟩)
          rw [nw_q0 (pS l1), nw_q1 (pS l1)] at hl
          refine hl.mono ?_
          rintro e wz ⟨rfl, hBz⟩
          have HZZ := Lib.hid (HBM.out wz (HY.out.trans (hBz.mono (by have := HY.out.size; have := HZ0.out; omega))))
          clear hl hDx hBz
          go_wp2
          go_ret
          exact ⟨rfl, HZZ.out⟩
        · obtain ⟨bb, mb, gg, bs, d, es, rfl, -⟩ := hok
          have HZZ := Lib.hid (HBM.out wp (HY.out.trans (hBp.mono (by have := HY.out.size; have := HZ0.out; omega))))
          clear hBp hz HPA
          go_wp2
          go_ret
          exact ⟨rfl, HZZ.out⟩
      · have hcc := (HK.out _ HY.out).2
        go_simp
        refine hK _ _ ?_
        clear hK K hcc
        try simp only [Act.put, List.setIfInBounds_toArray, List.set_cons_zero, List.set_cons_succ]
        refine wpAny_ready (rs := [2]) (by kernel_rfl) (by simp) ?_
        refine (AllReady.cons (by simp only [List.getElem?_toArray, List.getElem?_cons_succ, List.getElem?_cons_zero]; exact rfl) (fun K hK => ?_) AllReady.nil)
        go_simp
        refine (path1 x).mono ?_
        rintro e y ⟨rfl, rfl⟩
        have HKK := Lib.hid hK
        clear hK
        go_wp2_with fail
        refine HKK.out _ _ ?_
        clear HKK K
        try simp only [Act.put, List.setIfInBounds_toArray, List.set_cons_zero, List.set_cons_succ]
        refine wpAny_ready (rs := [6]) (by kernel_rfl) (by simp) ?_
        refine (AllReady.cons (by simp only [List.getElem?_toArray, List.getElem?_cons_succ, List.getElem?_cons_zero]; exact rfl) (fun K hK => ?_) AllReady.nil)
        go_simp
        obtain ⟨Sx, hDx, hSx⟩ := HD.out
        have hsx := (HS.out _ HY.out).2
        have hw := dwrite_any hDx ((nw0_ok).mono (by decide)) (by simp [nw0, nw10]) (by simp [nw0, nw10]) (by simp [nw0, nw10]) (cpS 1) (pS l1) q1 c1 0 (by decide) (by rw [pS_len]; omega) ⟨lsc_bytC hsx (pB_pS l1), by rw [bytC_len, Nat.mul_one], fun cc oo e h => ⟨fun hx => by
            have h1 := hSx cc hx
            obtain ⟨c', o', e', -⟩ := HS0.out.2 0 (by rw [bytC_len, pS_len] at h; exact h)
            have h2 := HQ.out.2 cc oo e (by rw [bytC_len, pS_len] at h; exact h)
            omega, by have h2 := HQ.out.2 cc oo e (by rw [bytC_len, pS_len] at h; exact h); have := HY.out.size; have := HZ0.out; omega⟩, hq1, by rw [pS_len]; omega⟩
        rw [nw_w01 (pS l1) (by rw [pS_len]; omega), show (pS l1).length = n1 by rw [pS_len]; exact e1] at hw
        refine hw.mono ?_
        rintro e y ⟨rfl, hDn, hkn⟩
        have hYn := HY.out.trans (kq8_below11 hkn hSx (by have := HY.out.size; have := HZ0.out; omega))
        have HD := Lib.hid (show ∃ S, Dsk y S b (nw01 (pS l1)) ∧ ∀ k, S k → M + 1 ≤ k from ⟨_, hDn, sn_from11 hSx (by have := HY.out.size; have := HZ0.out; omega)⟩)
        have HYN := Lib.hid hYn
        clear hDx hSx hsx hw hDn hkn hYn
        have HKK := Lib.hid hK
        clear hK
        go_wp2_with fail
        refine HKK.out _ _ ?_
        clear HKK K
        have HY := HYN
        try simp only [Act.put, List.setIfInBounds_toArray, List.set_cons_zero, List.set_cons_succ]
        refine wpAny_done (by kernel_rfl) ?_ _
        refine NoPanic.normal ?_
        have kk := (HK.out _ HY.out).2
        have HPA := Lib.hid (parseA_any l1 q1 n1 c1 y e1 (HS.out _ HY.out).2 hq1 hc1 (by omega) (HT.out _ HY.out).2)
        go_wp2_with fail
        clear kk
        refine HPA.out.mono ?_
        rintro e wp ⟨hBp, ⟨hne, rfl⟩ | ⟨hz, hok⟩⟩
        · have HY := Lib.hid (HY.out.trans (hBp.mono (by have := HY.out.size; have := HZ0.out; omega)))
          have HD := Lib.hid (show ∃ S, Dsk wp S b (nw01 (pS l1)) ∧ ∀ k, S k → M + 1 ≤ k from by
            obtain ⟨Sx, h1, h2⟩ := HD.out
            exact ⟨Sx, h1.of_below hBp, h2⟩)
          have HN1 := Lib.hid hne
          obtain ⟨k1, hk1⟩ : ∃ k, parseA l1 = k := ⟨_, rfl⟩
          rw [hk1] at hne ⊢
          have hz1 : ¬ (k1 : Int) = 0 := by omega
          have hd1 : decide ((k1 : Int) = 0) = false := decide_eq_false hz1
          have he1 : ((k1 : Int) == 0) = false := by simp; omega
          clear hBp hk1 hne HPA
          go_wp2
          rw [rounds_succ]
          go_wp2_with fail
          obtain ⟨Sx, hDx, -⟩ := HD.out
          have hl := load_none hDx ((nw01_ok (pS l1) (by rw [pS_len]; omega)).mono (by decide)) (HT.out _ HY.out).1 (HT.out _ HY.out).2 (fun x hx => by rw [nw_q0 (pS l1)] at hx; cases hx) (fun x hx => by rw [nw_q1 (pS l1)] at hx; injection hx with hx; subst hx; exact ⟨by rw [pS_len]; omega, by rw [pB_pS]; exact HN1.out⟩)
          rw [nw_q0 (pS l1), nw_q1 (pS l1)] at hl
          refine hl.mono ?_
          rintro e wz ⟨rfl, hBz⟩
          have HZZ := Lib.hid (HBM.out wz (HY.out.trans (hBz.mono (by have := HY.out.size; have := HZ0.out; omega))))
          clear hl hDx hBz
          go_wp2
          go_ret
          exact ⟨rfl, HZZ.out⟩
        · obtain ⟨bb, mb, gg, bs, d, es, rfl, -⟩ := hok
          have HZZ := Lib.hid (HBM.out wp (HY.out.trans (hBp.mono (by have := HY.out.size; have := HZ0.out; omega))))
          clear hBp hz HPA
          go_wp2
          go_ret
          exact ⟨rfl, HZZ.out⟩
  | true =>
    go_wp2
    have HY := Lib.hid (HY.out.drew)
    have HD := Lib.hid (show ∃ S, Dsk w2.drew S b (nw0) ∧ ∀ k, S k → M + 1 ≤ k from by
      obtain ⟨Sx, h1, h2⟩ := HD.out
      exact ⟨Sx, h1.of_below (Below.refl _ _).drew, h2⟩)
    refine wp_region_noPanic ?_
    refine wp_region_any (by kernel_rfl) ?_
    try (change wpAny _ _ _ _ _ _ _ (World.drew _))
    generalize w2.drew = x at HY HD ⊢
    refine wpAny_take (i := 0) (v := ?_) rfl (by kernel_rfl) (by kernel_rfl) (by kernel_rfl) (fun _ _ _ h => h) (Or.inl ⟨by rfl, ?_⟩) ?_
    rotate_left 1
    · (intro w; go_simp; try with_reducible rfl)
    try simp only [Act.put, List.setIfInBounds_toArray, List.set_cons_zero, List.set_cons_succ]
    refine wpAny_take (i := 1) (v := ?_) rfl (by kernel_rfl) (by kernel_rfl) (by kernel_rfl) (fun _ _ _ h => h) (Or.inl ⟨by rfl, ?_⟩) ?_
    rotate_left 1
    · (intro w; go_simp; try with_reducible rfl)
    try simp only [Act.put, List.setIfInBounds_toArray, List.set_cons_zero, List.set_cons_succ]
    refine wpAny_take (i := 3) (v := ?_) rfl (by kernel_rfl) (by kernel_rfl) (by kernel_rfl) (fun _ _ _ h => h) (Or.inl ⟨by rfl, ?_⟩) ?_
    rotate_left 1
    · (intro w; go_simp; try with_reducible rfl)
    try simp only [Act.put, List.setIfInBounds_toArray, List.set_cons_zero, List.set_cons_succ]
    refine wpAny_take (i := 4) (v := ?_) rfl (by kernel_rfl) (by kernel_rfl) (by kernel_rfl) (fun _ _ _ h => h) (Or.inl ⟨by rfl, ?_⟩) ?_
    rotate_left 1
    · (intro w; go_simp; try with_reducible rfl)
    try simp only [Act.put, List.setIfInBounds_toArray, List.set_cons_zero, List.set_cons_succ]
    refine wpAny_ready (rs := [2, 5]) (by kernel_rfl) (by simp) ?_
    refine (AllReady.cons (by simp only [List.getElem?_toArray, List.getElem?_cons_succ, List.getElem?_cons_zero]; exact rfl) (fun K hK => ?_) (AllReady.cons (by simp only [List.getElem?_toArray, List.getElem?_cons_succ, List.getElem?_cons_zero]; exact rfl) (fun K hK => ?_) AllReady.nil))
    · go_simp
      refine (path0 x).mono ?_
      rintro e y ⟨rfl, rfl⟩
      have HKK := Lib.hid hK
      clear hK
      go_wp2_with fail
      refine HKK.out _ _ ?_
      clear HKK K
      try simp only [Act.put, List.setIfInBounds_toArray, List.set_cons_zero, List.set_cons_succ]
      refine wpAny_ready (rs := [5]) (by kernel_rfl) (by simp) ?_
      refine (AllReady.cons (by simp only [List.getElem?_toArray, List.getElem?_cons_succ, List.getElem?_cons_zero]; exact rfl) (fun K hK => ?_) AllReady.nil)
      have hcc := (HK.out _ HY.out).1
      go_simp
      refine hK _ _ ?_
      clear hK K hcc
      try simp only [Act.put, List.setIfInBounds_toArray, List.set_cons_zero, List.set_cons_succ]
      refine wpAny_ready (rs := [6]) (by kernel_rfl) (by simp) ?_
      refine (AllReady.cons (by simp only [List.getElem?_toArray, List.getElem?_cons_succ, List.getElem?_cons_zero]; exact rfl) (fun K hK => ?_) AllReady.nil)
      go_simp
      obtain ⟨Sx, hDx, hSx⟩ := HD.out
      have hsx := (HS.out _ HY.out).1
      have hw := dwrite_any hDx ((nw0_ok).mono (by decide)) (by simp [nw0, nw10]) (by simp [nw0, nw10]) (by simp [nw0, nw10]) (cpS 0) (pS l0) q0 c0 0 (by decide) (by rw [pS_len]; omega) ⟨lsc_bytC hsx (pB_pS l0), by rw [bytC_len, Nat.mul_one], fun cc oo e h => ⟨fun hx => by
          have h1 := hSx cc hx
          obtain ⟨c', o', e', -⟩ := HS0.out.1 0 (by rw [bytC_len, pS_len] at h; exact h)
          have h2 := HQ.out.1 cc oo e (by rw [bytC_len, pS_len] at h; exact h)
          omega, by have h2 := HQ.out.1 cc oo e (by rw [bytC_len, pS_len] at h; exact h); have := HY.out.size; have := HZ0.out; omega⟩, hq0, by rw [pS_len]; omega⟩
      rw [nw_w10 (pS l0) (by rw [pS_len]; omega), show (pS l0).length = n0 by rw [pS_len]; exact e0] at hw
      refine hw.mono ?_
      rintro e y ⟨rfl, hDn, hkn⟩
      have hYn := HY.out.trans (kq8_below11 hkn hSx (by have := HY.out.size; have := HZ0.out; omega))
      have HD := Lib.hid (show ∃ S, Dsk y S b (nw10 (pS l0)) ∧ ∀ k, S k → M + 1 ≤ k from ⟨_, hDn, sn_from11 hSx (by have := HY.out.size; have := HZ0.out; omega)⟩)
      have HYN := Lib.hid hYn
      clear hDx hSx hsx hw hDn hkn hYn
      have HKK := Lib.hid hK
      clear hK
      go_wp2_with fail
      refine HKK.out _ _ ?_
      clear HKK K
      have HY := HYN
      try simp only [Act.put, List.setIfInBounds_toArray, List.set_cons_zero, List.set_cons_succ]
      refine wpAny_done (by kernel_rfl) ?_ _
      refine NoPanic.normal ?_
      have kk := (HK.out _ HY.out).1
      have HPA := Lib.hid (parseA_any l0 q0 n0 c0 y e0 (HS.out _ HY.out).1 hq0 hc0 (by omega) (HT.out _ HY.out).2)
      go_wp2_with fail
      clear kk
      refine HPA.out.mono ?_
      rintro e wp ⟨hBp, ⟨hne, rfl⟩ | ⟨hz, hok⟩⟩
      · have HY := Lib.hid (HY.out.trans (hBp.mono (by have := HY.out.size; have := HZ0.out; omega)))
        have HD := Lib.hid (show ∃ S, Dsk wp S b (nw10 (pS l0)) ∧ ∀ k, S k → M + 1 ≤ k from by
          obtain ⟨Sx, h1, h2⟩ := HD.out
          exact ⟨Sx, h1.of_below hBp, h2⟩)
        have HN0 := Lib.hid hne
        obtain ⟨k0, hk0⟩ : ∃ k, parseA l0 = k := ⟨_, rfl⟩
        rw [hk0] at hne ⊢
        have hz0 : ¬ (k0 : Int) = 0 := by omega
        have hd0 : decide ((k0 : Int) = 0) = false := decide_eq_false hz0
        have he0 : ((k0 : Int) == 0) = false := by simp; omega
        clear hBp hk0 hne HPA
        go_wp2
        rw [rounds_succ]
        cases f1 : (bits BinOp.and IntKind.u8 ((v : Int) / 2) 1 == 1) with
        | false =>
          go_wp2
          rw [rounds_succ]
          go_wp2_with fail
          obtain ⟨Sx, hDx, -⟩ := HD.out
          have hl := load_none hDx ((nw10_ok (pS l0) (by rw [pS_len]; omega)).mono (by decide)) (HT.out _ HY.out).1 (HT.out _ HY.out).2 (fun x hx => by rw [nw_p0 (pS l0)] at hx; injection hx with hx; subst hx; exact ⟨by rw [pS_len]; omega, by rw [pB_pS]; exact HN0.out⟩) (fun x hx => by rw [nw_p1 (pS l0)] at hx; cases hx)
          rw [nw_p0 (pS l0), nw_p1 (pS l0)] at hl
          refine hl.mono ?_
          rintro e wz ⟨rfl, hBz⟩
          have HZZ := Lib.hid (HBM.out wz (HY.out.trans (hBz.mono (by have := HY.out.size; have := HZ0.out; omega))))
          clear hl hDx hBz
          go_wp2
          go_ret
          exact ⟨rfl, HZZ.out⟩
        | true =>
          go_wp2
          have HY := Lib.hid (HY.out.drew)
          have HD := Lib.hid (show ∃ S, Dsk wp.drew S b (nw10 (pS l0)) ∧ ∀ k, S k → M + 1 ≤ k from by
            obtain ⟨Sx, h1, h2⟩ := HD.out
            exact ⟨Sx, h1.of_below (Below.refl _ _).drew, h2⟩)
          refine wp_region_noPanic ?_
          refine wp_region_any (by kernel_rfl) ?_
          try (change wpAny _ _ _ _ _ _ _ (World.drew _))
          generalize wp.drew = x at HY HD ⊢
          refine wpAny_take (i := 0) (v := ?_) rfl (by kernel_rfl) (by kernel_rfl) (by kernel_rfl) (fun _ _ _ h => h) (Or.inl ⟨by rfl, ?_⟩) ?_
          rotate_left 1
          · (intro w; go_simp; try with_reducible rfl)
          try simp only [Act.put, List.setIfInBounds_toArray, List.set_cons_zero, List.set_cons_succ]
          refine wpAny_take (i := 1) (v := ?_) rfl (by kernel_rfl) (by kernel_rfl) (by kernel_rfl) (fun _ _ _ h => h) (Or.inl ⟨by rfl, ?_⟩) ?_
          rotate_left 1
          · (intro w; go_simp; try with_reducible rfl)
          try simp only [Act.put, List.setIfInBounds_toArray, List.set_cons_zero, List.set_cons_succ]
          refine wpAny_take (i := 3) (v := ?_) rfl (by kernel_rfl) (by kernel_rfl) (by kernel_rfl) (fun _ _ _ h => h) (Or.inl ⟨by rfl, ?_⟩) ?_
          rotate_left 1
          · (intro w; go_simp; try with_reducible rfl)
          try simp only [Act.put, List.setIfInBounds_toArray, List.set_cons_zero, List.set_cons_succ]
          refine wpAny_take (i := 4) (v := ?_) rfl (by kernel_rfl) (by kernel_rfl) (by kernel_rfl) (fun _ _ _ h => h) (Or.inl ⟨by rfl, ?_⟩) ?_
          rotate_left 1
          · (intro w; go_simp; try with_reducible rfl)
          try simp only [Act.put, List.setIfInBounds_toArray, List.set_cons_zero, List.set_cons_succ]
          refine wpAny_ready (rs := [2, 5]) (by kernel_rfl) (by simp) ?_
          refine (AllReady.cons (by simp only [List.getElem?_toArray, List.getElem?_cons_succ, List.getElem?_cons_zero]; exact rfl) (fun K hK => ?_) (AllReady.cons (by simp only [List.getElem?_toArray, List.getElem?_cons_succ, List.getElem?_cons_zero]; exact rfl) (fun K hK => ?_) AllReady.nil))
          · go_simp
            refine (path1 x).mono ?_
            rintro e y ⟨rfl, rfl⟩
            have HKK := Lib.hid hK
            clear hK
            go_wp2_with fail
            refine HKK.out _ _ ?_
            clear HKK K
            try simp only [Act.put, List.setIfInBounds_toArray, List.set_cons_zero, List.set_cons_succ]
            refine wpAny_ready (rs := [5]) (by kernel_rfl) (by simp) ?_
            refine (AllReady.cons (by simp only [List.getElem?_toArray, List.getElem?_cons_succ, List.getElem?_cons_zero]; exact rfl) (fun K hK => ?_) AllReady.nil)
            have hcc := (HK.out _ HY.out).2
            go_simp
            refine hK _ _ ?_
            clear hK K hcc
            try simp only [Act.put, List.setIfInBounds_toArray, List.set_cons_zero, List.set_cons_succ]
            refine wpAny_ready (rs := [6]) (by kernel_rfl) (by simp) ?_
            refine (AllReady.cons (by simp only [List.getElem?_toArray, List.getElem?_cons_succ, List.getElem?_cons_zero]; exact rfl) (fun K hK => ?_) AllReady.nil)
            go_simp
            obtain ⟨Sx, hDx, hSx⟩ := HD.out
            have hsx := (HS.out _ HY.out).2
            have hw := dwrite_any hDx ((nw10_ok (pS l0) (by rw [pS_len]; omega)).mono (by decide)) (by simp [nw0, nw10]) (by simp [nw0, nw10]) (by simp [nw0, nw10]) (cpS 1) (pS l1) q1 c1 0 (by decide) (by rw [pS_len]; omega) ⟨lsc_bytC hsx (pB_pS l1), by rw [bytC_len, Nat.mul_one], fun cc oo e h => ⟨fun hx => by
                have h1 := hSx cc hx
                obtain ⟨c', o', e', -⟩ := HS0.out.2 0 (by rw [bytC_len, pS_len] at h; exact h)
                have h2 := HQ.out.2 cc oo e (by rw [bytC_len, pS_len] at h; exact h)
                omega, by have h2 := HQ.out.2 cc oo e (by rw [bytC_len, pS_len] at h; exact h); have := HY.out.size; have := HZ0.out; omega⟩, hq1, by rw [pS_len]; omega⟩
            rw [nw_w11 (pS l0) (pS l1) (by rw [pS_len]; omega) (by rw [pS_len]; omega), show (pS l1).length = n1 by rw [pS_len]; exact e1] at hw
            refine hw.mono ?_
            rintro e y ⟨rfl, hDn, hkn⟩
            have hYn := HY.out.trans (kq8_below11 hkn hSx (by have := HY.out.size; have := HZ0.out; omega))
            have HD := Lib.hid (show ∃ S, Dsk y S b (nw11 (pS l0) (pS l1)) ∧ ∀ k, S k → M + 1 ≤ k from ⟨_, hDn, sn_from11 hSx (by have := HY.out.size; have := HZ0.out; omega)⟩)
            have HYN := Lib.hid hYn
            clear hDx hSx hsx hw hDn hkn hYn
            have HKK := Lib.hid hK
            clear hK
            go_wp2_with fail
            refine HKK.out _ _ ?_
            clear HKK K
            have HY := HYN
            try simp only [Act.put, List.setIfInBounds_toArray, List.set_cons_zero, List.set_cons_succ]
            refine wpAny_done (by kernel_rfl) ?_ _
            refine NoPanic.normal ?_
            have kk := (HK.out _ HY.out).2
            have HPA := Lib.hid (parseA_any l1 q1 n1 c1 y e1 (HS.out _ HY.out).2 hq1 hc1 (by omega) (HT.out _ HY.out).2)
            go_wp2_with fail
            clear kk
            refine HPA.out.mono ?_
            rintro e wp ⟨hBp, ⟨hne, rfl⟩ | ⟨hz, hok⟩⟩
            · have HY := Lib.hid (HY.out.trans (hBp.mono (by have := HY.out.size; have := HZ0.out; omega)))
              have HD := Lib.hid (show ∃ S, Dsk wp S b (nw11 (pS l0) (pS l1)) ∧ ∀ k, S k → M + 1 ≤ k from by
                obtain ⟨Sx, h1, h2⟩ := HD.out
                exact ⟨Sx, h1.of_below hBp, h2⟩)
              have HN1 := Lib.hid hne
              obtain ⟨k1, hk1⟩ : ∃ k, parseA l1 = k := ⟨_, rfl⟩
              rw [hk1] at hne ⊢
              have hz1 : ¬ (k1 : Int) = 0 := by omega
              have hd1 : decide ((k1 : Int) = 0) = false := decide_eq_false hz1
              have he1 : ((k1 : Int) == 0) = false := by simp; omega
              clear hBp hk1 hne HPA
              go_wp2
              rw [rounds_succ]
              go_wp2_with fail
              obtain ⟨Sx, hDx, -⟩ := HD.out
              have hl := load_none hDx ((nw11_ok (pS l0) (pS l1) (by rw [pS_len]; omega) (by rw [pS_len]; omega)).mono (by decide)) (HT.out _ HY.out).1 (HT.out _ HY.out).2 (fun x hx => by rw [nw_s0 (pS l0) (pS l1)] at hx; injection hx with hx; subst hx; exact ⟨by rw [pS_len]; omega, by rw [pB_pS]; exact HN0.out⟩) (fun x hx => by rw [nw_s1 (pS l0) (pS l1)] at hx; injection hx with hx; subst hx; exact ⟨by rw [pS_len]; omega, by rw [pB_pS]; exact HN1.out⟩)
              rw [nw_s0 (pS l0) (pS l1), nw_s1 (pS l0) (pS l1)] at hl
              refine hl.mono ?_
              rintro e wz ⟨rfl, hBz⟩
              have HZZ := Lib.hid (HBM.out wz (HY.out.trans (hBz.mono (by have := HY.out.size; have := HZ0.out; omega))))
              clear hl hDx hBz
              go_wp2
              go_ret
              exact ⟨rfl, HZZ.out⟩
            · obtain ⟨bb, mb, gg, bs, d, es, rfl, -⟩ := hok
              have HZZ := Lib.hid (HBM.out wp (HY.out.trans (hBp.mono (by have := HY.out.size; have := HZ0.out; omega))))
              clear hBp hz HPA
              go_wp2
              go_ret
              exact ⟨rfl, HZZ.out⟩
          · have hcc := (HK.out _ HY.out).2
            go_simp
            refine hK _ _ ?_
            clear hK K hcc
            try simp only [Act.put, List.setIfInBounds_toArray, List.set_cons_zero, List.set_cons_succ]
            refine wpAny_ready (rs := [2]) (by kernel_rfl) (by simp) ?_
            refine (AllReady.cons (by simp only [List.getElem?_toArray, List.getElem?_cons_succ, List.getElem?_cons_zero]; exact rfl) (fun K hK => ?_) AllReady.nil)
            go_simp
            refine (path1 x).mono ?_
            rintro e y ⟨rfl, rfl⟩
            have HKK := Lib.hid hK
            clear hK
            go_wp2_with fail
            refine HKK.out _ _ ?_
            clear HKK K
            try simp only [Act.put, List.setIfInBounds_toArray, List.set_cons_zero, List.set_cons_succ]
            refine wpAny_ready (rs := [6]) (by kernel_rfl) (by simp) ?_
            refine (AllReady.cons (by simp only [List.getElem?_toArray, List.getElem?_cons_succ, List.getElem?_cons_zero]; exact rfl) (fun K hK => ?_) AllReady.nil)
            go_simp
            obtain ⟨Sx, hDx, hSx⟩ := HD.out
            have hsx := (HS.out _ HY.out).2
            have hw := dwrite_any hDx ((nw10_ok (pS l0) (by rw [pS_len]; omega)).mono (by decide)) (by simp [nw0, nw10]) (by simp [nw0, nw10]) (by simp [nw0, nw10]) (cpS 1) (pS l1) q1 c1 0 (by decide) (by rw [pS_len]; omega) ⟨lsc_bytC hsx (pB_pS l1), by rw [bytC_len, Nat.mul_one], fun cc oo e h => ⟨fun hx => by
                have h1 := hSx cc hx
                obtain ⟨c', o', e', -⟩ := HS0.out.2 0 (by rw [bytC_len, pS_len] at h; exact h)
                have h2 := HQ.out.2 cc oo e (by rw [bytC_len, pS_len] at h; exact h)
                omega, by have h2 := HQ.out.2 cc oo e (by rw [bytC_len, pS_len] at h; exact h); have := HY.out.size; have := HZ0.out; omega⟩, hq1, by rw [pS_len]; omega⟩
            rw [nw_w11 (pS l0) (pS l1) (by rw [pS_len]; omega) (by rw [pS_len]; omega), show (pS l1).length = n1 by rw [pS_len]; exact e1] at hw
            refine hw.mono ?_
            rintro e y ⟨rfl, hDn, hkn⟩
            have hYn := HY.out.trans (kq8_below11 hkn hSx (by have := HY.out.size; have := HZ0.out; omega))
            have HD := Lib.hid (show ∃ S, Dsk y S b (nw11 (pS l0) (pS l1)) ∧ ∀ k, S k → M + 1 ≤ k from ⟨_, hDn, sn_from11 hSx (by have := HY.out.size; have := HZ0.out; omega)⟩)
            have HYN := Lib.hid hYn
            clear hDx hSx hsx hw hDn hkn hYn
            have HKK := Lib.hid hK
            clear hK
            go_wp2_with fail
            refine HKK.out _ _ ?_
            clear HKK K
            have HY := HYN
            try simp only [Act.put, List.setIfInBounds_toArray, List.set_cons_zero, List.set_cons_succ]
            refine wpAny_done (by kernel_rfl) ?_ _
            refine NoPanic.normal ?_
            have kk := (HK.out _ HY.out).2
            have HPA := Lib.hid (parseA_any l1 q1 n1 c1 y e1 (HS.out _ HY.out).2 hq1 hc1 (by omega) (HT.out _ HY.out).2)
            go_wp2_with fail
            clear kk
            refine HPA.out.mono ?_
            rintro e wp ⟨hBp, ⟨hne, rfl⟩ | ⟨hz, hok⟩⟩
            · have HY := Lib.hid (HY.out.trans (hBp.mono (by have := HY.out.size; have := HZ0.out; omega)))
              have HD := Lib.hid (show ∃ S, Dsk wp S b (nw11 (pS l0) (pS l1)) ∧ ∀ k, S k → M + 1 ≤ k from by
                obtain ⟨Sx, h1, h2⟩ := HD.out
                exact ⟨Sx, h1.of_below hBp, h2⟩)
              have HN1 := Lib.hid hne
              obtain ⟨k1, hk1⟩ : ∃ k, parseA l1 = k := ⟨_, rfl⟩
              rw [hk1] at hne ⊢
              have hz1 : ¬ (k1 : Int) = 0 := by omega
              have hd1 : decide ((k1 : Int) = 0) = false := decide_eq_false hz1
              have he1 : ((k1 : Int) == 0) = false := by simp; omega
              clear hBp hk1 hne HPA
              go_wp2
              rw [rounds_succ]
              go_wp2_with fail
              obtain ⟨Sx, hDx, -⟩ := HD.out
              have hl := load_none hDx ((nw11_ok (pS l0) (pS l1) (by rw [pS_len]; omega) (by rw [pS_len]; omega)).mono (by decide)) (HT.out _ HY.out).1 (HT.out _ HY.out).2 (fun x hx => by rw [nw_s0 (pS l0) (pS l1)] at hx; injection hx with hx; subst hx; exact ⟨by rw [pS_len]; omega, by rw [pB_pS]; exact HN0.out⟩) (fun x hx => by rw [nw_s1 (pS l0) (pS l1)] at hx; injection hx with hx; subst hx; exact ⟨by rw [pS_len]; omega, by rw [pB_pS]; exact HN1.out⟩)
              rw [nw_s0 (pS l0) (pS l1), nw_s1 (pS l0) (pS l1)] at hl
              refine hl.mono ?_
              rintro e wz ⟨rfl, hBz⟩
              have HZZ := Lib.hid (HBM.out wz (HY.out.trans (hBz.mono (by have := HY.out.size; have := HZ0.out; omega))))
              clear hl hDx hBz
              go_wp2
              go_ret
              exact ⟨rfl, HZZ.out⟩
            · obtain ⟨bb, mb, gg, bs, d, es, rfl, -⟩ := hok
              have HZZ := Lib.hid (HBM.out wp (HY.out.trans (hBp.mono (by have := HY.out.size; have := HZ0.out; omega))))
              clear hBp hz HPA
              go_wp2
              go_ret
              exact ⟨rfl, HZZ.out⟩
      · obtain ⟨bb, mb, gg, bs, d, es, rfl, -⟩ := hok
        have HZZ := Lib.hid (HBM.out wp (HY.out.trans (hBp.mono (by have := HY.out.size; have := HZ0.out; omega))))
        clear hBp hz HPA
        go_wp2
        go_ret
        exact ⟨rfl, HZZ.out⟩
    · have hcc := (HK.out _ HY.out).1
      go_simp
      refine hK _ _ ?_
      clear hK K hcc
      try simp only [Act.put, List.setIfInBounds_toArray, List.set_cons_zero, List.set_cons_succ]
      refine wpAny_ready (rs := [2]) (by kernel_rfl) (by simp) ?_
      refine (AllReady.cons (by simp only [List.getElem?_toArray, List.getElem?_cons_succ, List.getElem?_cons_zero]; exact rfl) (fun K hK => ?_) AllReady.nil)
      go_simp
      refine (path0 x).mono ?_
      rintro e y ⟨rfl, rfl⟩
      have HKK := Lib.hid hK
      clear hK
      go_wp2_with fail
      refine HKK.out _ _ ?_
      clear HKK K
      try simp only [Act.put, List.setIfInBounds_toArray, List.set_cons_zero, List.set_cons_succ]
      refine wpAny_ready (rs := [6]) (by kernel_rfl) (by simp) ?_
      refine (AllReady.cons (by simp only [List.getElem?_toArray, List.getElem?_cons_succ, List.getElem?_cons_zero]; exact rfl) (fun K hK => ?_) AllReady.nil)
      go_simp
      obtain ⟨Sx, hDx, hSx⟩ := HD.out
      have hsx := (HS.out _ HY.out).1
      have hw := dwrite_any hDx ((nw0_ok).mono (by decide)) (by simp [nw0, nw10]) (by simp [nw0, nw10]) (by simp [nw0, nw10]) (cpS 0) (pS l0) q0 c0 0 (by decide) (by rw [pS_len]; omega) ⟨lsc_bytC hsx (pB_pS l0), by rw [bytC_len, Nat.mul_one], fun cc oo e h => ⟨fun hx => by
          have h1 := hSx cc hx
          obtain ⟨c', o', e', -⟩ := HS0.out.1 0 (by rw [bytC_len, pS_len] at h; exact h)
          have h2 := HQ.out.1 cc oo e (by rw [bytC_len, pS_len] at h; exact h)
          omega, by have h2 := HQ.out.1 cc oo e (by rw [bytC_len, pS_len] at h; exact h); have := HY.out.size; have := HZ0.out; omega⟩, hq0, by rw [pS_len]; omega⟩
      rw [nw_w10 (pS l0) (by rw [pS_len]; omega), show (pS l0).length = n0 by rw [pS_len]; exact e0] at hw
      refine hw.mono ?_
      rintro e y ⟨rfl, hDn, hkn⟩
      have hYn := HY.out.trans (kq8_below11 hkn hSx (by have := HY.out.size; have := HZ0.out; omega))
      have HD := Lib.hid (show ∃ S, Dsk y S b (nw10 (pS l0)) ∧ ∀ k, S k → M + 1 ≤ k from ⟨_, hDn, sn_from11 hSx (by have := HY.out.size; have := HZ0.out; omega)⟩)
      have HYN := Lib.hid hYn
      clear hDx hSx hsx hw hDn hkn hYn
      have HKK := Lib.hid hK
      clear hK
      go_wp2_with fail
      refine HKK.out _ _ ?_
      clear HKK K
      have HY := HYN
      try simp only [Act.put, List.setIfInBounds_toArray, List.set_cons_zero, List.set_cons_succ]
      refine wpAny_done (by kernel_rfl) ?_ _
      refine NoPanic.normal ?_
      have kk := (HK.out _ HY.out).1
      have HPA := Lib.hid (parseA_any l0 q0 n0 c0 y e0 (HS.out _ HY.out).1 hq0 hc0 (by omega) (HT.out _ HY.out).2)
      go_wp2_with fail
      clear kk
      refine HPA.out.mono ?_
      rintro e wp ⟨hBp, ⟨hne, rfl⟩ | ⟨hz, hok⟩⟩
      · have HY := Lib.hid (HY.out.trans (hBp.mono (by have := HY.out.size; have := HZ0.out; omega)))
        have HD := Lib.hid (show ∃ S, Dsk wp S b (nw10 (pS l0)) ∧ ∀ k, S k → M + 1 ≤ k from by
          obtain ⟨Sx, h1, h2⟩ := HD.out
          exact ⟨Sx, h1.of_below hBp, h2⟩)
        have HN0 := Lib.hid hne
        obtain ⟨k0, hk0⟩ : ∃ k, parseA l0 = k := ⟨_, rfl⟩
        rw [hk0] at hne ⊢
        have hz0 : ¬ (k0 : Int) = 0 := by omega
        have hd0 : decide ((k0 : Int) = 0) = false := decide_eq_false hz0
        have he0 : ((k0 : Int) == 0) = false := by simp; omega
        clear hBp hk0 hne HPA
        go_wp2
        rw [rounds_succ]
        cases f1 : (bits BinOp.and IntKind.u8 ((v : Int) / 2) 1 == 1) with
        | false =>
          go_wp2
          rw [rounds_succ]
          go_wp2_with fail
          obtain ⟨Sx, hDx, -⟩ := HD.out
          have hl := load_none hDx ((nw10_ok (pS l0) (by rw [pS_len]; omega)).mono (by decide)) (HT.out _ HY.out).1 (HT.out _ HY.out).2 (fun x hx => by rw [nw_p0 (pS l0)] at hx; injection hx with hx; subst hx; exact ⟨by rw [pS_len]; omega, by rw [pB_pS]; exact HN0.out⟩) (fun x hx => by rw [nw_p1 (pS l0)] at hx; cases hx)
          rw [nw_p0 (pS l0), nw_p1 (pS l0)] at hl
          refine hl.mono ?_
          rintro e wz ⟨rfl, hBz⟩
          have HZZ := Lib.hid (HBM.out wz (HY.out.trans (hBz.mono (by have := HY.out.size; have := HZ0.out; omega))))
          clear hl hDx hBz
          go_wp2
          go_ret
          exact ⟨rfl, HZZ.out⟩
        | true =>
          go_wp2
          have HY := Lib.hid (HY.out.drew)
          have HD := Lib.hid (show ∃ S, Dsk wp.drew S b (nw10 (pS l0)) ∧ ∀ k, S k → M + 1 ≤ k from by
            obtain ⟨Sx, h1, h2⟩ := HD.out
            exact ⟨Sx, h1.of_below (Below.refl _ _).drew, h2⟩)
          refine wp_region_noPanic ?_
          refine wp_region_any (by kernel_rfl) ?_
          try (change wpAny _ _ _ _ _ _ _ (World.drew _))
          generalize wp.drew = x at HY HD ⊢
          refine wpAny_take (i := 0) (v := ?_) rfl (by kernel_rfl) (by kernel_rfl) (by kernel_rfl) (fun _ _ _ h => h) (Or.inl ⟨by rfl, ?_⟩) ?_
          rotate_left 1
          · (intro w; go_simp; try with_reducible rfl)
          try simp only [Act.put, List.setIfInBounds_toArray, List.set_cons_zero, List.set_cons_succ]
          refine wpAny_take (i := 1) (v := ?_) rfl (by kernel_rfl) (by kernel_rfl) (by kernel_rfl) (fun _ _ _ h => h) (Or.inl ⟨by rfl, ?_⟩) ?_
          rotate_left 1
          · (intro w; go_simp; try with_reducible rfl)
          try simp only [Act.put, List.setIfInBounds_toArray, List.set_cons_zero, List.set_cons_succ]
          refine wpAny_take (i := 3) (v := ?_) rfl (by kernel_rfl) (by kernel_rfl) (by kernel_rfl) (fun _ _ _ h => h) (Or.inl ⟨by rfl, ?_⟩) ?_
          rotate_left 1
          · (intro w; go_simp; try with_reducible rfl)
          try simp only [Act.put, List.setIfInBounds_toArray, List.set_cons_zero, List.set_cons_succ]
          refine wpAny_take (i := 4) (v := ?_) rfl (by kernel_rfl) (by kernel_rfl) (by kernel_rfl) (fun _ _ _ h => h) (Or.inl ⟨by rfl, ?_⟩) ?_
          rotate_left 1
          · (intro w; go_simp; try with_reducible rfl)
          try simp only [Act.put, List.setIfInBounds_toArray, List.set_cons_zero, List.set_cons_succ]
          refine wpAny_ready (rs := [2, 5]) (by kernel_rfl) (by simp) ?_
          refine (AllReady.cons (by simp only [List.getElem?_toArray, List.getElem?_cons_succ, List.getElem?_cons_zero]; exact rfl) (fun K hK => ?_) (AllReady.cons (by simp only [List.getElem?_toArray, List.getElem?_cons_succ, List.getElem?_cons_zero]; exact rfl) (fun K hK => ?_) AllReady.nil))
          · go_simp
            refine (path1 x).mono ?_
            rintro e y ⟨rfl, rfl⟩
            have HKK := Lib.hid hK
            clear hK
            go_wp2_with fail
            refine HKK.out _ _ ?_
            clear HKK K
            try simp only [Act.put, List.setIfInBounds_toArray, List.set_cons_zero, List.set_cons_succ]
            refine wpAny_ready (rs := [5]) (by kernel_rfl) (by simp) ?_
            refine (AllReady.cons (by simp only [List.getElem?_toArray, List.getElem?_cons_succ, List.getElem?_cons_zero]; exact rfl) (fun K hK => ?_) AllReady.nil)
            have hcc := (HK.out _ HY.out).2
            go_simp
            refine hK _ _ ?_
            clear hK K hcc
            try simp only [Act.put, List.setIfInBounds_toArray, List.set_cons_zero, List.set_cons_succ]
            refine wpAny_ready (rs := [6]) (by kernel_rfl) (by simp) ?_
            refine (AllReady.cons (by simp only [List.getElem?_toArray, List.getElem?_cons_succ, List.getElem?_cons_zero]; exact rfl) (fun K hK => ?_) AllReady.nil)
            go_simp
            obtain ⟨Sx, hDx, hSx⟩ := HD.out
            have hsx := (HS.out _ HY.out).2
            have hw := dwrite_any hDx ((nw10_ok (pS l0) (by rw [pS_len]; omega)).mono (by decide)) (by simp [nw0, nw10]) (by simp [nw0, nw10]) (by simp [nw0, nw10]) (cpS 1) (pS l1) q1 c1 0 (by decide) (by rw [pS_len]; omega) ⟨lsc_bytC hsx (pB_pS l1), by rw [bytC_len, Nat.mul_one], fun cc oo e h => ⟨fun hx => by
                have h1 := hSx cc hx
                obtain ⟨c', o', e', -⟩ := HS0.out.2 0 (by rw [bytC_len, pS_len] at h; exact h)
                have h2 := HQ.out.2 cc oo e (by rw [bytC_len, pS_len] at h; exact h)
                omega, by have h2 := HQ.out.2 cc oo e (by rw [bytC_len, pS_len] at h; exact h); have := HY.out.size; have := HZ0.out; omega⟩, hq1, by rw [pS_len]; omega⟩
            rw [nw_w11 (pS l0) (pS l1) (by rw [pS_len]; omega) (by rw [pS_len]; omega), show (pS l1).length = n1 by rw [pS_len]; exact e1] at hw
            refine hw.mono ?_
            rintro e y ⟨rfl, hDn, hkn⟩
            have hYn := HY.out.trans (kq8_below11 hkn hSx (by have := HY.out.size; have := HZ0.out; omega))
            have HD := Lib.hid (show ∃ S, Dsk y S b (nw11 (pS l0) (pS l1)) ∧ ∀ k, S k → M + 1 ≤ k from ⟨_, hDn, sn_from11 hSx (by have := HY.out.size; have := HZ0.out; omega)⟩)
            have HYN := Lib.hid hYn
            clear hDx hSx hsx hw hDn hkn hYn
            have HKK := Lib.hid hK
            clear hK
            go_wp2_with fail
            refine HKK.out _ _ ?_
            clear HKK K
            have HY := HYN
            try simp only [Act.put, List.setIfInBounds_toArray, List.set_cons_zero, List.set_cons_succ]
            refine wpAny_done (by kernel_rfl) ?_ _
            refine NoPanic.normal ?_
            have kk := (HK.out _ HY.out).2
            have HPA := Lib.hid (parseA_any l1 q1 n1 c1 y e1 (HS.out _ HY.out).2 hq1 hc1 (by omega) (HT.out _ HY.out).2)
            go_wp2_with fail
            clear kk
            refine HPA.out.mono ?_
            rintro e wp ⟨hBp, ⟨hne, rfl⟩ | ⟨hz, hok⟩⟩
            · have HY := Lib.hid (HY.out.trans (hBp.mono (by have := HY.out.size; have := HZ0.out; omega)))
              have HD := Lib.hid (show ∃ S, Dsk wp S b (nw11 (pS l0) (pS l1)) ∧ ∀ k, S k → M + 1 ≤ k from by
                obtain ⟨Sx, h1, h2⟩ := HD.out
                exact ⟨Sx, h1.of_below hBp, h2⟩)
              have HN1 := Lib.hid hne
              obtain ⟨k1, hk1⟩ : ∃ k, parseA l1 = k := ⟨_, rfl⟩
              rw [hk1] at hne ⊢
              have hz1 : ¬ (k1 : Int) = 0 := by omega
              have hd1 : decide ((k1 : Int) = 0) = false := decide_eq_false hz1
              have he1 : ((k1 : Int) == 0) = false := by simp; omega
              clear hBp hk1 hne HPA
              go_wp2
              rw [rounds_succ]
              go_wp2_with fail
              obtain ⟨Sx, hDx, -⟩ := HD.out
              have hl := load_none hDx ((nw11_ok (pS l0) (pS l1) (by rw [pS_len]; omega) (by rw [pS_len]; omega)).mono (by decide)) (HT.out _ HY.out).1 (HT.out _ HY.out).2 (fun x hx => by rw [nw_s0 (pS l0) (pS l1)] at hx; injection hx with hx; subst hx; exact ⟨by rw [pS_len]; omega, by rw [pB_pS]; exact HN0.out⟩) (fun x hx => by rw [nw_s1 (pS l0) (pS l1)] at hx; injection hx with hx; subst hx; exact ⟨by rw [pS_len]; omega, by rw [pB_pS]; exact HN1.out⟩)
              rw [nw_s0 (pS l0) (pS l1), nw_s1 (pS l0) (pS l1)] at hl
              refine hl.mono ?_
              rintro e wz ⟨rfl, hBz⟩
              have HZZ := Lib.hid (HBM.out wz (HY.out.trans (hBz.mono (by have := HY.out.size; have := HZ0.out; omega))))
              clear hl hDx hBz
              go_wp2
              go_ret
              exact ⟨rfl, HZZ.out⟩
            · obtain ⟨bb, mb, gg, bs, d, es, rfl, -⟩ := hok
              have HZZ := Lib.hid (HBM.out wp (HY.out.trans (hBp.mono (by have := HY.out.size; have := HZ0.out; omega))))
              clear hBp hz HPA
              go_wp2
              go_ret
              exact ⟨rfl, HZZ.out⟩
          · have hcc := (HK.out _ HY.out).2
            go_simp
            refine hK _ _ ?_
            clear hK K hcc
            try simp only [Act.put, List.setIfInBounds_toArray, List.set_cons_zero, List.set_cons_succ]
            refine wpAny_ready (rs := [2]) (by kernel_rfl) (by simp) ?_
            refine (AllReady.cons (by simp only [List.getElem?_toArray, List.getElem?_cons_succ, List.getElem?_cons_zero]; exact rfl) (fun K hK => ?_) AllReady.nil)
            go_simp
            refine (path1 x).mono ?_
            rintro e y ⟨rfl, rfl⟩
            have HKK := Lib.hid hK
            clear hK
            go_wp2_with fail
            refine HKK.out _ _ ?_
            clear HKK K
            try simp only [Act.put, List.setIfInBounds_toArray, List.set_cons_zero, List.set_cons_succ]
            refine wpAny_ready (rs := [6]) (by kernel_rfl) (by simp) ?_
            refine (AllReady.cons (by simp only [List.getElem?_toArray, List.getElem?_cons_succ, List.getElem?_cons_zero]; exact rfl) (fun K hK => ?_) AllReady.nil)
            go_simp
            obtain ⟨Sx, hDx, hSx⟩ := HD.out
            have hsx := (HS.out _ HY.out).2
            have hw := dwrite_any hDx ((nw10_ok (pS l0) (by rw [pS_len]; omega)).mono (by decide)) (by simp [nw0, nw10]) (by simp [nw0, nw10]) (by simp [nw0, nw10]) (cpS 1) (pS l1) q1 c1 0 (by decide) (by rw [pS_len]; omega) ⟨lsc_bytC hsx (pB_pS l1), by rw [bytC_len, Nat.mul_one], fun cc oo e h => ⟨fun hx => by
                have h1 := hSx cc hx
                obtain ⟨c', o', e', -⟩ := HS0.out.2 0 (by rw [bytC_len, pS_len] at h; exact h)
                have h2 := HQ.out.2 cc oo e (by rw [bytC_len, pS_len] at h; exact h)
                omega, by have h2 := HQ.out.2 cc oo e (by rw [bytC_len, pS_len] at h; exact h); have := HY.out.size; have := HZ0.out; omega⟩, hq1, by rw [pS_len]; omega⟩
            rw [nw_w11 (pS l0) (pS l1) (by rw [pS_len]; omega) (by rw [pS_len]; omega), show (pS l1).length = n1 by rw [pS_len]; exact e1] at hw
            refine hw.mono ?_
            rintro e y ⟨rfl, hDn, hkn⟩
            have hYn := HY.out.trans (kq8_below11 hkn hSx (by have := HY.out.size; have := HZ0.out; omega))
            have HD := Lib.hid (show ∃ S, Dsk y S b (nw11 (pS l0) (pS l1)) ∧ ∀ k, S k → M + 1 ≤ k from ⟨_, hDn, sn_from11 hSx (by have := HY.out.size; have := HZ0.out; omega)⟩)
            have HYN := Lib.hid hYn
            clear hDx hSx hsx hw hDn hkn hYn
            have HKK := Lib.hid hK
            clear hK
            go_wp2_with fail
            refine HKK.out _ _ ?_
            clear HKK K
            have HY := HYN
            try simp only [Act.put, List.setIfInBounds_toArray, List.set_cons_zero, List.set_cons_succ]
            refine wpAny_done (by kernel_rfl) ?_ _
            refine NoPanic.normal ?_
            have kk := (HK.out _ HY.out).2
            have HPA := Lib.hid (parseA_any l1 q1 n1 c1 y e1 (HS.out _ HY.out).2 hq1 hc1 (by omega) (HT.out _ HY.out).2)
            go_wp2_with fail
            clear kk
            refine HPA.out.mono ?_
            rintro e wp ⟨hBp, ⟨hne, rfl⟩ | ⟨hz, hok⟩⟩
            · have HY := Lib.hid (HY.out.trans (hBp.mono (by have := HY.out.size; have := HZ0.out; omega)))
              have HD := Lib.hid (show ∃ S, Dsk wp S b (nw11 (pS l0) (pS l1)) ∧ ∀ k, S k → M + 1 ≤ k from by
                obtain ⟨Sx, h1, h2⟩ := HD.out
                exact ⟨Sx, h1.of_below hBp, h2⟩)
              have HN1 := Lib.hid hne
              obtain ⟨k1, hk1⟩ : ∃ k, parseA l1 = k := ⟨_, rfl⟩
              rw [hk1] at hne ⊢
              have hz1 : ¬ (k1 : Int) = 0 := by omega
              have hd1 : decide ((k1 : Int) = 0) = false := decide_eq_false hz1
              have he1 : ((k1 : Int) == 0) = false := by simp; omega
              clear hBp hk1 hne HPA
              go_wp2
              rw [rounds_succ]
              go_wp2_with fail
              obtain ⟨Sx, hDx, -⟩ := HD.out
              have hl := load_none hDx ((nw11_ok (pS l0) (pS l1) (by rw [pS_len]; omega) (by rw [pS_len]; omega)).mono (by decide)) (HT.out _ HY.out).1 (HT.out _ HY.out).2 (fun x hx => by rw [nw_s0 (pS l0) (pS l1)] at hx; injection hx with hx; subst hx; exact ⟨by rw [pS_len]; omega, by rw [pB_pS]; exact HN0.out⟩) (fun x hx => by rw [nw_s1 (pS l0) (pS l1)] at hx; injection hx with hx; subst hx; exact ⟨by rw [pS_len]; omega, by rw [pB_pS]; exact HN1.out⟩)
              rw [nw_s0 (pS l0) (pS l1), nw_s1 (pS l0) (pS l1)] at hl
              refine hl.mono ?_
              rintro e wz ⟨rfl, hBz⟩
              have HZZ := Lib.hid (HBM.out wz (HY.out.trans (hBz.mono (by have := HY.out.size; have := HZ0.out; omega))))
              clear hl hDx hBz
              go_wp2
              go_ret
              exact ⟨rfl, HZZ.out⟩
            · obtain ⟨bb, mb, gg, bs, d, es, rfl, -⟩ := hok
              have HZZ := Lib.hid (HBM.out wp (HY.out.trans (hBp.mono (by have := HY.out.size; have := HZ0.out; omega))))
              clear hBp hz HPA
              go_wp2
              go_ret
              exact ⟨rfl, HZZ.out⟩
      · obtain ⟨bb, mb, gg, bs, d, es, rfl, -⟩ := hok
        have HZZ := Lib.hid (HBM.out wp (HY.out.trans (hBp.mono (by have := HY.out.size; have := HZ0.out; omega))))
        clear hBp hz HPA
        go_wp2
        go_ret
        exact ⟨rfl, HZZ.out⟩
set_option maxRecDepth 100000 in
set_option maxHeartbeats 16000000 in
theorem none_any (w : World) (hC : CpA w) (hT : Tb w) (l0 l1 : By) (q0 q1 : Option Addr) (n0 n1 c0 c1 : Nat) (v : Nat) (e0 : l0.length = n0) (e1 : l1.length = n1) (hs0 : Sl w q0 l0) (hs1 : Sl w q1 l1)
    (hq0 : q0 = none → c0 = 0) (hq1 : q1 = none → c1 = 0) (hc0 : n0 ≤ c0) (hc1 : n1 ≤ c1) :
    Calls Tryz.prog 4 #[.agg #[.slice q0 n0 c0, .slice q1 n1 c1], .int .u8 (v : Int)] w fun e w' => e = .returned (.bool true) ∧ Below w.heap.size w w' := by
  by_cases h0 : n0 ≤ 200
  · by_cases h1 : n1 ≤ 200
    · exact none_go w hC hT l0 l1 q0 q1 n0 n1 c0 c1 v e0 e1 hs0 hs1 hq0 hq1 hc0 hc1 h0 h1
    · have hb : Below w.heap.size w (w.alloc (.cells #[.slice q0 n0 c0, .slice q1 n1 c1] 54)) := below_newR _ _
      have k0 : (w.alloc (.cells #[.slice q0 n0 c0, .slice q1 n1 c1] 54)).cell? ⟨w.heap.size, 0, none⟩ = some (.slice q0 n0 c0) := by unfold World.cell?; rw [World.alloc_heap_new]; simp
      have k1 : (w.alloc (.cells #[.slice q0 n0 c0, .slice q1 n1 c1] 54)).cell? ⟨w.heap.size, 1, none⟩ = some (.slice q1 n1 c1) := by unfold World.cell?; rw [World.alloc_heap_new]; simp
      obtain ⟨W0, hW0⟩ : ∃ x, w.alloc (.cells #[.slice q0 n0 c0, .slice q1 n1 c1] 54) = x := ⟨_, rfl⟩
      rw [hW0] at hb k0 k1
      have HAW := Lib.hid (fun (u : World) (hu : Below W0.heap.size W0 u) => awake11 u ((hC.on hb).on hu) ((hT.on hb).on hu))
      have HKK := Lib.hid (fun (u : World) (hu : Below W0.heap.size W0 u) => (show u.cell? ⟨w.heap.size, 0, none⟩ = some (.slice q0 n0 c0) ∧ u.cell? ⟨w.heap.size, 1, none⟩ = some (.slice q1 n1 c1) from ⟨by rw [hu.cell (by exact World.block_lt_of_cell? W0 _ k0)]; exact k0, by rw [hu.cell (by exact World.block_lt_of_cell? W0 _ k1)]; exact k1⟩))
      have d0 : ¬ (200 : Int) < (n0 : Int) := by omega
      have d1 : (200 : Int) < (n1 : Int) := by omega
      have g0 : decide ((200 : Int) < (n0 : Int)) = false := decide_eq_false d0
      have g1 : decide ((200 : Int) < (n1 : Int)) = true := decide_eq_true d1
      have HBB := Lib.hid hb
      clear hb hC hT hs0 hs1 k0 k1
      go_enter Tryz.func4, Tryz.ntmps4
      go_wp2_with fail
      refine (HAW.out W0 (Below.refl _ _)).mono ?_
      rintro e w1 ⟨rfl, hB1⟩
      obtain ⟨k0, k1⟩ := HKK.out w1 hB1
      have HA2 := Lib.hid (HAW.out w1 hB1)
      have HB1 := Lib.hid hB1
      clear hB1 HAW HKK
      go_wp2_with fail
      clear k0 k1
      refine HA2.out.mono ?_
      rintro e w2 ⟨rfl, hB2⟩
      have HZZ := Lib.hid (HBB.out.trans ((HB1.out.trans (hB2.mono HB1.out.size)).mono HBB.out.size))
      clear hB2
      go_wp2
      go_ret
      exact ⟨rfl, HZZ.out⟩
  · have hb : Below w.heap.size w (w.alloc (.cells #[.slice q0 n0 c0, .slice q1 n1 c1] 54)) := below_newR _ _
    have k0 : (w.alloc (.cells #[.slice q0 n0 c0, .slice q1 n1 c1] 54)).cell? ⟨w.heap.size, 0, none⟩ = some (.slice q0 n0 c0) := by unfold World.cell?; rw [World.alloc_heap_new]; simp
    obtain ⟨W0, hW0⟩ : ∃ x, w.alloc (.cells #[.slice q0 n0 c0, .slice q1 n1 c1] 54) = x := ⟨_, rfl⟩
    rw [hW0] at hb k0
    have HAW := Lib.hid (fun (u : World) (hu : Below W0.heap.size W0 u) => awake11 u ((hC.on hb).on hu) ((hT.on hb).on hu))
    have HKK := Lib.hid (fun (u : World) (hu : Below W0.heap.size W0 u) => (show u.cell? ⟨w.heap.size, 0, none⟩ = some (.slice q0 n0 c0) from by rw [hu.cell (by exact World.block_lt_of_cell? W0 _ k0)]; exact k0))
    have d0 : (200 : Int) < (n0 : Int) := by omega
    have g0 : decide ((200 : Int) < (n0 : Int)) = true := decide_eq_true d0
    have HBB := Lib.hid hb
    clear hb hC hT hs0 hs1 k0
    go_enter Tryz.func4, Tryz.ntmps4
    go_wp2_with fail
    refine (HAW.out W0 (Below.refl _ _)).mono ?_
    rintro e w1 ⟨rfl, hB1⟩
    have k0 := HKK.out w1 hB1
    have HA2 := Lib.hid (HAW.out w1 hB1)
    have HB1 := Lib.hid hB1
    clear hB1 HAW HKK
    go_wp2_with fail
    clear k0
    refine HA2.out.mono ?_
    rintro e w2 ⟨rfl, hB2⟩
    have HZZ := Lib.hid (HBB.out.trans ((HB1.out.trans (hB2.mono HB1.out.size)).mono HBB.out.size))
    clear hB2
    go_wp2
    go_ret
    exact ⟨rfl, HZZ.out⟩
end Go.Proofs.YtnmopjefjpifoaaGreatDoor
