/- LaneBound. -/
import Derived.Test.YtcgilacmdckbfaaDoorKB5
import Derived.Test.YtcgilacmdckbfaaDoorLst14
import Derived.Test.YtcgilacmdckbfaaDoorLiftA14
set_option linter.unusedSimpArgs false
set_option maxRecDepth 100000
set_option linter.unusedVariables false
namespace Go.Proofs.YtcgilacmdckbfaaDoor
open Go Go.RowKit

theorem three14b {w : World} {b : Nat} {a0 a1 a2 : Value} {t : TypeId} (h : w.heap[b]? = some (.cells #[a0, a1, a2] t (0, 0))) : w.cell? ⟨b, 0, none⟩ = some a0 ∧ w.cell? ⟨b, 1, none⟩ = some a1 ∧ w.cell? ⟨b, 2, none⟩ = some a2 := by
  refine ⟨?_, ?_, ?_⟩ <;> simp [World.cell?, h]
abbrev TB14 : TypeId := 30
theorem has_pb {l : List Fl} {p : S8} : hasP l p = true ↔ p ∈ l.map (·.path) := by
  unfold hasP
  rw [List.any_eq_true, List.mem_map]
  exact ⟨fun ⟨f, hf, e⟩ => ⟨f, hf, of_decide_eq_true e⟩, fun ⟨f, hf, e⟩ => ⟨f, hf, decide_eq_true e⟩⟩
theorem drop_no {l : List Fl} {p : S8} (h : ¬ p ∈ l.map (·.path)) : dropF l p = l := dropF_no fun f hf e => h (List.mem_map.2 ⟨f, hf, e⟩)
theorem drop_paths (l : List Fl) (p : S8) : (dropF l p).map (·.path) = (l.map (·.path)).filter (fun q => decide (q ≠ p)) := by
  unfold dropF
  rw [List.filter_map]
  rfl
theorem drop_pb (l : List Fl) (p : S8) : pbL (dropF l p) = (pbL l).filter (fun q => decide (q.1 ≠ p)) := by
  unfold dropF pbL
  rw [List.filter_map]
  rfl
theorem path_pb (l : List Fl) : l.map (·.path) = (pbL l).map (·.1) := by
  unfold pbL
  rw [List.map_map]
  rfl
/-- What the map and the row are to the lanes. -/
structure LbQ (s : Ln) (Q : List Fl) (ps : List S8) : Prop where
  q : (pbL Q).Perm (pbL (s.en ++ s.sc))
  p : ps.Perm (Q.map (·.path))
theorem LbQ.zero : LbQ ln0 [] [] := ⟨List.Perm.refl _, List.Perm.refl _⟩
theorem LbQ.paths {s : Ln} {Q : List Fl} {ps : List S8} (h : LbQ s Q ps) : (Q.map (·.path)).Perm ((s.en ++ s.sc).map (·.path)) := by
  rw [path_pb, path_pb]
  exact h.q.map _
theorem LbQ.nd {s : Ln} {Q : List Fl} {ps : List S8} (h : LbQ s Q ps) (hn : okLn s) : (Q.map (·.path)).Nodup := (h.paths.nodup_iff).2 hn
theorem LbQ.has {s : Ln} {Q : List Fl} {ps : List S8} (h : LbQ s Q ps) (p : S8) : hasL s p = true ↔ p ∈ ps := by
  rw [h.p.mem_iff, h.paths.mem_iff, List.mem_map]
  unfold hasL
  rw [Bool.or_eq_true, decide_eq_true_eq, decide_eq_true_eq]
  constructor
  · rintro (h | h)
    · rcases findI_spec s.en p with ⟨h1, -⟩ | ⟨i, h1, h2, h3⟩
      · omega
      · exact ⟨_, List.mem_append_left _ (getD_memF h2), h3⟩
    · rcases findI_spec s.sc p with ⟨h1, -⟩ | ⟨i, h1, h2, h3⟩
      · omega
      · exact ⟨_, List.mem_append_right _ (getD_memF h2), h3⟩
  · rintro ⟨f, hf, hp⟩
    rcases List.mem_append.1 hf with hf | hf
    · rcases findI_spec s.en p with ⟨h1, h2⟩ | ⟨i, h1, -⟩
      · exact absurd hp (h2 f hf)
      · exact .inl (by omega)
    · rcases findI_spec s.sc p with ⟨h1, h2⟩ | ⟨i, h1, -⟩
      · exact absurd hp (h2 f hf)
      · exact .inr (by omega)
theorem LbQ.putNo {s : Ln} {Q : List Fl} {ps : List S8} (h : LbQ s Q ps) {p : S8} {n : Int} (hc : ¬ putC p n = 0) : LbQ (putS s p n) Q ps := by
  unfold putS
  rw [if_neg hc]
  exact h
theorem LbQ.put {s : Ln} {Q : List Fl} {ps : List S8} (h : LbQ s Q ps) (hn : okLn s) {p : S8} {n : Int} (hc : putC p n = 0) (ps' : List S8) (hp : ps'.Perm (p :: ps.filter (fun q => decide (q ≠ p)))) : LbQ (putS s p n) (⟨p, n.toNat, 0, 0⟩ :: dropF Q p) ps' := by
  refine ⟨?_, ?_⟩
  · refine List.Perm.trans ?_ ((put_pb hc).map fun f => (f.path, f.blocks)).symm
    show ((p, n.toNat) :: pbL (dropF Q p)).Perm ((p, n.toNat) :: pbL (dropF (s.en ++ s.sc) p))
    rw [drop_pb, drop_pb]
    exact (h.q.filter _).cons _
  · refine hp.trans ?_
    show _root_.List.Perm _ (p :: (dropF Q p).map (·.path))
    rw [drop_paths]
    exact (h.p.filter _).cons _
theorem filt_in {l : List S8} (hn : l.Nodup) {p : S8} (hp : p ∈ l) : l.Perm (p :: l.filter (fun q => decide (q ≠ p))) := by
  induction l with
  | nil => cases hp
  | cons a l ih =>
    rw [List.nodup_cons] at hn
    by_cases ha : a = p
    · subst ha
      rw [List.filter_cons, if_neg (by simp), List.filter_eq_self.2 (fun x hx => by
        simp only [decide_eq_true_eq]
        exact fun e => hn.1 (e ▸ hx))]
    · have hp' : p ∈ l := by
        rcases List.mem_cons.1 hp with e | e
        · exact absurd e.symm ha
        · exact e
      rw [List.filter_cons, if_pos (by simpa using ha)]
      exact ((ih hn.2 hp').cons a).trans (List.Perm.swap _ _ _)
theorem filt_out {l : List S8} {p : S8} (hp : ¬ p ∈ l) : l.filter (fun q => decide (q ≠ p)) = l := List.filter_eq_self.2 fun x hx => by
  simp only [decide_eq_true_eq]
  exact fun e => hp (e ▸ hx)
theorem filt_cut {l : List S8} (hn : l.Nodup) {i : Nat} (hi : i < l.length) : l.take i ++ l.drop (i + 1) = l.filter (fun q => decide (q ≠ l[i])) := by
  induction l generalizing i with
  | nil => simp at hi
  | cons a l ih =>
    rw [List.nodup_cons] at hn
    cases i with
    | zero =>
      rw [List.filter_cons, if_neg (by simp)]
      simp only [List.take_zero, List.nil_append, Nat.zero_add, List.drop_succ_cons, List.drop_zero, List.getElem_cons_zero]
      exact (filt_out hn.1).symm
    | succ i =>
      have hi' : i < l.length := by simpa using hi
      have hne : a ≠ l[i] := fun e => hn.1 (e ▸ List.getElem_mem hi')
      simp only [List.take_succ_cons, List.drop_succ_cons, List.cons_append, List.getElem_cons_succ]
      rw [List.filter_cons, if_pos (by simpa using hne), ih hn.2 hi']
theorem LbQ.drop {s : Ln} {Q : List Fl} {ps : List S8} (h : LbQ s Q ps) (p : S8) (ps' : List S8) (hp : ps' = ps.filter (fun q => decide (q ≠ p))) : LbQ (dropS s p) (dropF Q p) ps' := by
  refine ⟨?_, ?_⟩
  · show (pbL (dropF Q p)).Perm (pbL (dropF s.en p ++ dropF s.sc p))
    rw [← drop_app, drop_pb, drop_pb]
    exact h.q.filter _
  · rw [hp, drop_paths]
    exact h.p.filter _
theorem LbQ.dropNo {s : Ln} {Q : List Fl} {ps : List S8} (h : LbQ s Q ps) {p : S8} (hp : hasL s p = false) : LbQ (dropS s p) Q ps := by
  have hn : ¬ p ∈ ps := fun e => by rw [(h.has p).2 e] at hp; cases hp
  have h1 := h.drop p ps (filt_out hn).symm
  rwa [drop_no (fun e => hn (h.p.mem_iff.2 e))] at h1
theorem LbQ.tick {s : Ln} {Q : List Fl} {ps : List S8} (H : LbQ s Q ps) (h : Nat) {ns : List Fl} (hp : ns.Perm (tickFin s h)) : LbQ (tickS s h ns) Q ps := ⟨H.q.trans (pb_tick s h hp).symm, H.p⟩
theorem blk_in {s : Ln} {Q : List Fl} {ps : List S8} {k : Nat} (h : LbQ s Q ps) (I : LbI s k) {f : Fl} (hf : f ∈ Q) : f.blocks ≤ 64 := by
  have h1 : (f.path, f.blocks) ∈ pbL (s.en ++ s.sc) := h.q.mem_iff.1 (List.mem_map.2 ⟨f, hf, rfl⟩)
  obtain ⟨g, hg, e⟩ := List.mem_map.1 h1
  injection e with e1 e2
  rw [← e2]
  rcases List.mem_append.1 hg with h2 | h2
  · exact (I.oe g h2).2
  · exact (I.os g h2).2
theorem good_halfB {z : Int} (h : badB z = false) : ∃ b : Nat, 1 ≤ b ∧ b ≤ 500 ∧ z = 2 * (b : Int) := by
  unfold badB at h
  simp at h
  exact ⟨(z / 2).toNat, by omega, by omega, by omega⟩
attribute [local go_sem ↓] exec_make
attribute [local go_sem] mkBl14
set_option maxRecDepth 100000 in
set_option maxHeartbeats 8000000 in
theorem bound14_any (l : List A14) (p : Option Addr) (n cap : Nat) (hf : Nat) (hhf : hf < 256) (w : World) (h : Acs14 w p n cap l) (hn : n < 9223372036854775808) (hx : ∀ x ∈ l, ActOk14 x) :
    Calls Tryd.prog 4 #[.slice p n cap, .int .u8 (hf : Int)] w fun e w' => e = .returned (.bool true) ∧ Below w.heap.size w w' := by
  have HAW := Lib.hid (awake14 w)
  by_cases g0 : 60 < n
  · have t0 : decide ((60 : Int) < (n : Int)) = true := decide_eq_true (by omega)
    have t1 : decide (60 < n) = true := decide_eq_true g0
    clear h g0 hx
    go_enter Tryd.func4, Tryd.ntmps4
    go_wp2_with fail
    refine HAW.out.mono ?_
    rintro e w1 ⟨rfl, hB⟩
    have HB := Lib.hid hB
    have HAW2 := Lib.hid (awake14 w1)
    clear hB
    go_wp2_with fail
    refine HAW2.out.mono ?_
    rintro e w2 ⟨rfl, hB⟩
    have HB2 := Lib.hid (HB.out.trans (hB.mono HB.out.size))
    clear hB
    go_wp2
    go_ret
    exact ⟨rfl, HB2.out⟩
  have t0 : decide ((60 : Int) < (n : Int)) = false := decide_eq_false (by omega)
  have t1 : decide (60 < n) = false := decide_eq_false g0
  have HL := Lib.hid h
  have HXS := Lib.hid hx
  have HN60 := Lib.hid (show n ≤ 60 by omega)
  have hmm := @run_makeMap Tryd.prog
  clear h g0 hx
  go_enter Tryd.func4, Tryd.ntmps4
  go_wp2_with fail
  refine HAW.out.mono ?_
  rintro e w1 ⟨rfl, hB⟩
  have HB1 := Lib.hid hB
  have HNW := Lib.hid (new14_any w1)
  clear hB
  go_wp2_with fail
  refine HNW.out.mono ?_
  rintro e w2 ⟨rfl, hL2, hB2⟩
  obtain ⟨b, hb⟩ : ∃ b, w1.heap.size = b := ⟨_, rfl⟩
  obtain ⟨mb, hmb⟩ : ∃ mb, w2.heap.size = mb := ⟨_, rfl⟩
  obtain ⟨w3, hw3⟩ : ∃ w3, w2.alloc (.map #[] 0) = w3 := ⟨_, rfl⟩
  have hS3 : LbS w w3 b mb (fun g => w1.heap.size ≤ g ∧ g < w2.heap.size) ln0 [] (.slice none 0 0) [] := by
    have hB3 : Below w2.heap.size w2 w3 := by rw [← hw3]; exact (Below.refl _ _).alloc (Nat.le_refl _) _
    have hs1 := HB1.out.size
    have hs2 := hB2.size
    have hs3 := hB3.size
    have hlt3 : w2.heap.size < w3.heap.size := by rw [← hw3]; simp
    rw [← hb, ← hmb]
    refine ⟨(hL2.mono (fun g h1 h2 => ⟨h2, h1⟩)).of_new hB3, fun g hg => ⟨by omega, by omega⟩, (HB1.out.trans (hB2.mono hs1)).trans (hB3.mono (by omega)), by rw [← hw3]; exact MpB.made w2, ⟨fun hc => Nat.lt_irrefl _ hc.2, by omega⟩, ⟨rfl, .inl ⟨rfl, rfl⟩⟩, (fun g hg => by cases hg)⟩
  have HS3 := Lib.hid hS3
  clear hL2 hB2 hS3 HAW HNW
  rw [hb]
  clear hb
  go_wp2
  clear hmm
  go_loopw [6, 43] (fun v6 v wr => ∃ k : Nat, k ≤ n ∧ v = .int .i64 (k : Int) ∧ ∃ F s Q ps, LbS w wr b mb F s Q v6 ps ∧ LbI s k ∧ LbQ s Q ps) (fun _ v _ => n - (intOf v).toNat)
  case atStart => exact ⟨0, Nat.zero_le _, rfl, _, _, _, _, HS3.out, LbI.zero, LbQ.zero⟩
  case round =>
    obtain ⟨k, hk, rfl, F, s, Q, ps, hS, hI, hQ⟩ := hrel
    have HS := Lib.hid hS
    have HI := Lib.hid hI
    have HQ := Lib.hid hQ
    obtain ⟨pv, kv, ev, -⟩ := own_shape hS.ow
    subst ev
    clear hS hI hQ HS3 hmb hw3
    by_cases hlt : k < n
    · have z1 : (k : Int) < (n : Int) := by omega
      have z2 : decide ((k : Int) < (n : Int)) = true := decide_eq_true z1
      have z3 : decide (k < n) = true := decide_eq_true hlt
      have z4 : (0 : Int) ≤ (k : Int) := by omega
      have hw64 : IntKind.i64.wrap ((k : Int) + 1) = ((k + 1 : Nat) : Int) := by rw [IntKind.wrap_i64]; have := HN60.out; omega
      have HNK := Lib.hid (show k + 1 ≤ n by omega)
      have HNN := Lib.hid (show k ≤ 60 by have := HN60.out; omega)
      have hkl : k < l.length := by rw [HL.out.len]; exact hlt
      obtain ⟨x, hx⟩ : ∃ x, l[k] = x := ⟨_, rfl⟩
      have hxo : ActOk14 x := by rw [← hx]; exact HXS.out _ (List.getElem_mem hkl)
      obtain ⟨c0, o0, hpe, hF⟩ := (HL.out.of_below HS.out.bel).cells hkl
      rw [hx] at hF
      have f0 : wr.cell? ⟨c0, o0 + k * 3, none⟩ = some (.int .u8 (x.kind : Int)) := hF 0 _ rfl
      have f1 := hF 1 _ rfl
      have f2 := hF 2 _ rfl
      obtain ⟨wa, hwa⟩ : ∃ wa, wr.alloc (.cells #[.int .u8 (x.kind : Int), .string (mkS x.path), .int .i64 x.n] TB14) = wa := ⟨_, rfl⟩
      obtain ⟨ab, hab⟩ : ∃ ab, wr.heap.size = ab := ⟨_, rfl⟩
      have hBa : Below wr.heap.size wr wa := by rw [← hwa]; exact (Below.refl _ _).alloc (Nat.le_refl _) _
      have haa : wa.heap[ab]? = some (.cells #[.int .u8 (x.kind : Int), .string (mkS x.path), .int .i64 x.n] TB14 (0, 0)) := by rw [← hwa, ← hab]; exact World.alloc_heap_new _ _
      obtain ⟨a0, a1, a2⟩ := three14b haa
      have hSa := HS.out.next hBa
      have HSA := Lib.hid hSa
      have HAB := Lib.hid (And.intro haa hab)
      have HAPS := Lib.hid (show ∀ g, (Value.slice pv ps.length kv).ownBlock = some g → ab = g → False from fun g hg e => by have := (HS.out.ow.lt g hg).2; omega)
      rw [hpe]
      clear hF hpe hx hBa hSa haa hkl hlt hk
      by_cases hp : 200 < x.path.length
      · have p1 : decide (200 < x.path.length) = true := decide_eq_true hp
        have p2 : decide ((200 : Int) < (x.path.length : Int)) = true := decide_eq_true (by omega)
        clear hp
        go_wp2
        go_ret
        exact ⟨rfl, HSA.out.bel⟩
      have p1 : decide (200 < x.path.length) = false := decide_eq_false hp
      have p2 : decide ((200 : Int) < (x.path.length : Int)) = false := decide_eq_false (by omega)
      have HX := Lib.hid (show x.path.length ≤ 200 ∧ -9223372036854775808 ≤ x.n ∧ x.n < 9223372036854775808 from ⟨by omega, hxo.2.2⟩)
      have hkd : x.kind % 4 = 0 ∨ x.kind % 4 = 1 ∨ x.kind % 4 = 2 ∨ x.kind % 4 = 3 := by omega
      have HKB := Lib.hid hxo.1
      clear hp hxo
      rcases hkd with hkd | hkd | hkd | hkd
      · have r1 : (x.kind : Int) % 4 = 0 := by omega
        clear hkd
        have hpt := put_any HSA.out.ln HI.out.nd (by have := HI.out.len; have := HNN.out; omega) x.path (by have := HX.out.1; omega) x.n HX.out.2.1 HX.out.2.2
        obtain ⟨c5, hc5⟩ : ∃ c, putC x.path x.n = c := ⟨_, rfl⟩
        have HC5 := Lib.hid hc5
        have HPT := Lib.hid hpt
        clear hpt hc5
        go_wp2_with fail
        refine HPT.out.mono ?_
        rintro e w5 ⟨he, hL5, hK5⟩
        rw [HC5.out] at he
        subst he
        have hS5 := HSA.out.call hL5 hK5
        have hab5 := (hK5.block ab (Array.getElem?_eq_some_iff.1 HAB.out.1).1 (fun hf => by have := (HS.out.fl ab hf).2; have := HAB.out.2; omega)).trans HAB.out.1
        obtain ⟨x0, x1, x2⟩ := three14b hab5
        have HI7 := Lib.hid (HI.out.put x.path x.n)
        have HS5 := Lib.hid hS5
        have HAB5 := Lib.hid hab5
        clear hL5 hK5 hS5 hab5 a0 a1 a2
        by_cases g5 : c5 = 0
        · subst g5
          have hl5 := run_lookup8 (P := Tryd.prog) miT stT14 (zeroIn14 w5) HS5.out.mp x.path true
          rw [bm_find] at hl5
          simp only [if_true] at hl5
          obtain ⟨lv, hlv⟩ : ∃ lv, (findV (bmV Q) x.path).getD (.int .i64 0) = lv := ⟨_, rfl⟩
          rw [hlv] at hl5
          clear hlv
          have hnn : 0 ≤ x.n := by
            have h1 := HC5.out
            unfold putC at h1
            split at h1
            · cases h1
            · split at h1
              · cases h1
              · omega
          have HNZ := Lib.hid hnn
          clear hnn
          cases hth : hasP Q x.path with
          | true =>
            rw [hth] at hl5
            obtain ⟨w6, hrun6, m1, m2, m3⟩ := run_update8 (P := Tryd.prog) miT stT14 HS5.out.mp x.path (.int .i64 x.n)
            rw [bm_put _ _ _ HNZ.out] at m1
            have HS7 := Lib.hid (HS5.out.upd m1 m2 m3)
            have HQ7 := Lib.hid (HQ.out.put HI.out.nd HC5.out ps (filt_in ((HQ.out.p.nodup_iff).2 (HQ.out.nd HI.out.nd)) (HQ.out.p.mem_iff.2 (has_pb.1 hth))))
            clear m1 m2 m3 hth
            go_wp2
            exact ⟨⟨k + 1, HNK.out, rfl, _, _, _, _, HS7.out, HI7.out, HQ7.out⟩, by simp [intOf]; have := HNK.out; omega⟩
          | false =>
            rw [hth] at hl5
            have HNT := Lib.hid (fun e : x.path ∈ ps => (Bool.false_ne_true (hth.symm.trans (has_pb.2 (HQ.out.p.mem_iff.1 e)))))
            clear hth
            obtain ⟨w6, hw6⟩ : ∃ w6, w5.alloc (.cells #[.string (mkS x.path)] TSt) = w6 := ⟨_, rfl⟩
            have hB6 : Below w5.heap.size w5 w6 := by rw [← hw6]; exact (Below.refl _ _).alloc (Nat.le_refl _) _
            have hls6 : LsC w6 (some ⟨w5.heap.size, 0, none⟩) [.string (mkS x.path)] := by rw [← hw6]; exact LsC.made w5 _ TSt
            have hS6 := HS5.out.next hB6
            have hlen := HQ.out.p.length_eq
            have hlq := HQ.out.paths.length_eq
            have H6 := Lib.hid (And.intro hS6 (And.intro hls6 (And.intro hlen hlq)))
            have HW6 := Lib.hid hw6
            clear hB6 hls6 hS6 hlen hlq hw6
            go_wp2_with (first | (refine (id ?_ : wpList _ _ _ (⟨some 81, _, _, _, _, _⟩ :: _) _ _); generalize hG : wpList _ _ _ (_ :: _) _ _ = G))
            rw [← hG]
            clear hG
            rw [HW6.out]
            refine wpl_appendK elStr14 w6 rfl (.tmp 77) (.tmp 80) rfl w.heap.size (n := ps.length) (v := .slice pv ps.length kv) (cs := psC ps) rfl H6.out.1.ow (some ⟨w5.heap.size, 0, none⟩) 1 1 [.string (mkS x.path)] rfl rfl H6.out.2.1 (fun h => by cases h) (fun u hu => by simp at hu; subst hu; rfl) (by have h1 := H6.out.2.2; have h2 := HI.out.len; have h3 := HNN.out; simp only [List.length_map, List.length_append] at h1; omega) H6.out.1.bel.size ?_
            rintro v7 w7 hO7 hg7 hor7
            have hS7 : LbS w w7 b mb _ _ Q v7 (ps ++ [x.path]) := H6.out.1.row (by rw [List.length_append]; unfold psC; rw [List.map_append]; exact hO7) (KpF.of_grown hg7 fun k e => e) hor7
            obtain ⟨w8, hrun8, m1, m2, m3⟩ := run_update8 (P := Tryd.prog) miT stT14 hS7.mp x.path (.int .i64 x.n)
            rw [bm_put _ _ _ HNZ.out] at m1
            have hlt5 := (Array.getElem?_eq_some_iff.1 HAB5.out).1
            have hab6 : w6.heap[ab]? = some (.cells #[.int .u8 (x.kind : Int), .string (mkS x.path), .int .i64 x.n] TB14 (0, 0)) := by rw [← HW6.out, Below.heap_alloc _ _ _ hlt5]; exact HAB5.out
            have hab7 := (hg7.block ab (Array.getElem?_eq_some_iff.1 hab6).1 (fun h => HAPS.out ab h.symm rfl)).trans hab6
            obtain ⟨y0, y1, y2⟩ := three14b hab7
            have HS7 := Lib.hid (hS7.upd m1 m2 m3)
            have HQ7 := Lib.hid (HQ.out.put HI.out.nd HC5.out (ps ++ [x.path]) (by rw [filt_out HNT.out]; exact List.perm_append_singleton _ _))
            clear m1 m2 m3 hO7 hg7 hor7 hS7 hab7 hab6 hlt5 x0 x1 x2 hl5
            go_wp2
            exact ⟨⟨k + 1, HNK.out, rfl, _, _, _, _, HS7.out, HI7.out, HQ7.out⟩, by simp [intOf]; have := HNK.out; omega⟩
        · have g5b : ((c5 : Int) == 0) = false := by simp; omega
          have HS7 := HS5
          have HQ7 := Lib.hid (HQ.out.putNo (s := s) (p := x.path) (n := x.n) (by rw [HC5.out]; exact g5))
          clear g5
          go_wp2
          exact ⟨⟨k + 1, HNK.out, rfl, _, _, _, _, HS7.out, HI7.out, HQ7.out⟩, by simp [intOf]; have := HNK.out; omega⟩
      · have r1 : (x.kind : Int) % 4 = 1 := by omega
        clear hkd
        have hpt := put_any HSA.out.ln HI.out.nd (by have := HI.out.len; have := HNN.out; omega) x.path (by have := HX.out.1; omega) x.n HX.out.2.1 HX.out.2.2
        obtain ⟨c5, hc5⟩ : ∃ c, putC x.path x.n = c := ⟨_, rfl⟩
        have HC5 := Lib.hid hc5
        have HPT := Lib.hid hpt
        clear hpt hc5
        go_wp2_with fail
        refine HPT.out.mono ?_
        rintro e w5 ⟨he, hL5, hK5⟩
        rw [HC5.out] at he
        subst he
        have hS5 := HSA.out.call hL5 hK5
        have hab5 := (hK5.block ab (Array.getElem?_eq_some_iff.1 HAB.out.1).1 (fun hf => by have := (HS.out.fl ab hf).2; have := HAB.out.2; omega)).trans HAB.out.1
        obtain ⟨x0, x1, x2⟩ := three14b hab5
        have HI7 := Lib.hid (HI.out.put x.path x.n)
        have HS5 := Lib.hid hS5
        have HAB5 := Lib.hid hab5
        clear hL5 hK5 hS5 hab5 a0 a1 a2
        by_cases g5 : c5 = 0
        · subst g5
          have hl5 := run_lookup8 (P := Tryd.prog) miT stT14 (zeroIn14 w5) HS5.out.mp x.path true
          rw [bm_find] at hl5
          simp only [if_true] at hl5
          obtain ⟨lv, hlv⟩ : ∃ lv, (findV (bmV Q) x.path).getD (.int .i64 0) = lv := ⟨_, rfl⟩
          rw [hlv] at hl5
          clear hlv
          have hnn : 0 ≤ x.n := by
            have h1 := HC5.out
            unfold putC at h1
            split at h1
            · cases h1
            · split at h1
              · cases h1
              · omega
          have HNZ := Lib.hid hnn
          clear hnn
          cases hth : hasP Q x.path with
          | true =>
            rw [hth] at hl5
            obtain ⟨w6, hrun6, m1, m2, m3⟩ := run_update8 (P := Tryd.prog) miT stT14 HS5.out.mp x.path (.int .i64 x.n)
            rw [bm_put _ _ _ HNZ.out] at m1
            have HS7 := Lib.hid (HS5.out.upd m1 m2 m3)
            have HQ7 := Lib.hid (HQ.out.put HI.out.nd HC5.out ps (filt_in ((HQ.out.p.nodup_iff).2 (HQ.out.nd HI.out.nd)) (HQ.out.p.mem_iff.2 (has_pb.1 hth))))
            clear m1 m2 m3 hth
            go_wp2
            exact ⟨⟨k + 1, HNK.out, rfl, _, _, _, _, HS7.out, HI7.out, HQ7.out⟩, by simp [intOf]; have := HNK.out; omega⟩
          | false =>
            rw [hth] at hl5
            have HNT := Lib.hid (fun e : x.path ∈ ps => (Bool.false_ne_true (hth.symm.trans (has_pb.2 (HQ.out.p.mem_iff.1 e)))))
            clear hth
            obtain ⟨w6, hw6⟩ : ∃ w6, w5.alloc (.cells #[.string (mkS x.path)] TSt) = w6 := ⟨_, rfl⟩
            have hB6 : Below w5.heap.size w5 w6 := by rw [← hw6]; exact (Below.refl _ _).alloc (Nat.le_refl _) _
            have hls6 : LsC w6 (some ⟨w5.heap.size, 0, none⟩) [.string (mkS x.path)] := by rw [← hw6]; exact LsC.made w5 _ TSt
            have hS6 := HS5.out.next hB6
            have hlen := HQ.out.p.length_eq
            have hlq := HQ.out.paths.length_eq
            have H6 := Lib.hid (And.intro hS6 (And.intro hls6 (And.intro hlen hlq)))
            have HW6 := Lib.hid hw6
            clear hB6 hls6 hS6 hlen hlq hw6
            go_wp2_with (first | (refine (id ?_ : wpList _ _ _ (⟨some 81, _, _, _, _, _⟩ :: _) _ _); generalize hG : wpList _ _ _ (_ :: _) _ _ = G))
            rw [← hG]
            clear hG
            rw [HW6.out]
            refine wpl_appendK elStr14 w6 rfl (.tmp 77) (.tmp 80) rfl w.heap.size (n := ps.length) (v := .slice pv ps.length kv) (cs := psC ps) rfl H6.out.1.ow (some ⟨w5.heap.size, 0, none⟩) 1 1 [.string (mkS x.path)] rfl rfl H6.out.2.1 (fun h => by cases h) (fun u hu => by simp at hu; subst hu; rfl) (by have h1 := H6.out.2.2; have h2 := HI.out.len; have h3 := HNN.out; simp only [List.length_map, List.length_append] at h1; omega) H6.out.1.bel.size ?_
            rintro v7 w7 hO7 hg7 hor7
            have hS7 : LbS w w7 b mb _ _ Q v7 (ps ++ [x.path]) := H6.out.1.row (by rw [List.length_append]; unfold psC; rw [List.map_append]; exact hO7) (KpF.of_grown hg7 fun k e => e) hor7
            obtain ⟨w8, hrun8, m1, m2, m3⟩ := run_update8 (P := Tryd.prog) miT stT14 hS7.mp x.path (.int .i64 x.n)
            rw [bm_put _ _ _ HNZ.out] at m1
            have hlt5 := (Array.getElem?_eq_some_iff.1 HAB5.out).1
            have hab6 : w6.heap[ab]? = some (.cells #[.int .u8 (x.kind : Int), .string (mkS x.path), .int .i64 x.n] TB14 (0, 0)) := by rw [← HW6.out, Below.heap_alloc _ _ _ hlt5]; exact HAB5.out
            have hab7 := (hg7.block ab (Array.getElem?_eq_some_iff.1 hab6).1 (fun h => HAPS.out ab h.symm rfl)).trans hab6
            obtain ⟨y0, y1, y2⟩ := three14b hab7
            have HS7 := Lib.hid (hS7.upd m1 m2 m3)
            have HQ7 := Lib.hid (HQ.out.put HI.out.nd HC5.out (ps ++ [x.path]) (by rw [filt_out HNT.out]; exact List.perm_append_singleton _ _))
            clear m1 m2 m3 hO7 hg7 hor7 hS7 hab7 hab6 hlt5 x0 x1 x2 hl5
            go_wp2
            exact ⟨⟨k + 1, HNK.out, rfl, _, _, _, _, HS7.out, HI7.out, HQ7.out⟩, by simp [intOf]; have := HNK.out; omega⟩
        · have g5b : ((c5 : Int) == 0) = false := by simp; omega
          have HS7 := HS5
          have HQ7 := Lib.hid (HQ.out.putNo (s := s) (p := x.path) (n := x.n) (by rw [HC5.out]; exact g5))
          clear g5
          go_wp2
          exact ⟨⟨k + 1, HNK.out, rfl, _, _, _, _, HS7.out, HI7.out, HQ7.out⟩, by simp [intOf]; have := HNK.out; omega⟩
      · have r1 : (x.kind : Int) % 4 = 2 := by omega
        clear hkd
        have hdp := drop_any HSA.out.ln HI.out.nd (by have := HI.out.len; have := HNN.out; omega) x.path
        obtain ⟨hs, hhs⟩ : ∃ hs, hasL s x.path = hs := ⟨_, rfl⟩
        have HHS := Lib.hid hhs
        have HPT := Lib.hid hdp
        clear hdp hhs
        go_wp2_with fail
        refine HPT.out.mono ?_
        rintro e w5 ⟨he, hL5, hK5⟩
        rw [HHS.out] at he
        subst he
        have hS5 := HSA.out.call hL5 hK5
        have hab5 := (hK5.block ab (Array.getElem?_eq_some_iff.1 HAB.out.1).1 (fun hf => by have := (HS.out.fl ab hf).2; have := HAB.out.2; omega)).trans HAB.out.1
        obtain ⟨x0, x1, x2⟩ := three14b hab5
        have HI7 := Lib.hid (HI.out.drop x.path).more
        have HS5 := Lib.hid hS5
        have HAB5 := Lib.hid hab5
        clear hL5 hK5 hS5 hab5 a0 a1 a2
        cases hs with
        | false =>
          have HS7 := HS5
          have HQ7 := Lib.hid (HQ.out.dropNo HHS.out)
          go_wp2
          exact ⟨⟨k + 1, HNK.out, rfl, _, _, _, _, HS7.out, HI7.out, HQ7.out⟩, by simp [intOf]; have := HNK.out; omega⟩
        | true =>
          go_wp2_with (first | (refine (id ?_ : wpList _ _ _ (⟨none, _, _, _, _, _⟩ :: _) _ _); generalize hG : wpList _ _ _ (_ :: _) _ _ = G))
          rw [← hG]
          clear hG
          refine wpl_delete8 _ rfl (.tmp 94) (.tmp 96) rfl miT stT14 rfl HS5.out.mp x.path rfl ?_
          intro w6 m1 m2 m3
          rw [bm_del] at m1
          have hab6 := (m2.block ab (Array.getElem?_eq_some_iff.1 HAB5.out).1 (fun h => by injection h with h; have h1 := HSA.out.mp; obtain ⟨es, clk, hb, -⟩ := h1; rw [← h, HAB.out.1] at hb; cases hb)).trans HAB5.out
          obtain ⟨y0, y1, y2⟩ := three14b hab6
          have HS6 := Lib.hid (HS5.out.upd m1 m2 m3)
          obtain ⟨m, hm⟩ : ∃ m, ps.length = m := ⟨_, rfl⟩
          have hmb2 : m ≤ 100 := by
            have h1 := HQ.out.p.length_eq
            have h2 := HQ.out.paths.length_eq
            have h3 := HI.out.len
            have h4 := HNN.out
            simp only [List.length_map, List.length_append] at h1 h2
            omega
          have HM := Lib.hid (And.intro hm hmb2)
          rw [hm]
          clear m1 m2 m3 hab6 hm
          go_wp2
          go_loopw [6, 99] (fun v6 v wq => ∃ j : Nat, j ≤ m ∧ v = .int .i64 (j : Int) ∧ v6 = .slice pv m kv ∧ (∀ i, i < j → ps.getD i [] ≠ x.path) ∧ w6 = wq) (fun _ v _ => m - (intOf v).toNat)
          case atStart => exact ⟨0, Nat.zero_le _, rfl, rfl, (fun i hi => absurd hi (Nat.not_lt_zero _)), rfl⟩
          case round =>
            rename World => wq
            obtain ⟨j, hj, rfl, rfl, hne, rfl⟩ := hrel
            have HNE := Lib.hid hne
            clear hne
            by_cases hjl : j < m
            · have u1 : (j : Int) < (m : Int) := by omega
              have u2 : decide ((j : Int) < (m : Int)) = true := decide_eq_true u1
              have u3 : decide (j < m) = true := decide_eq_true hjl
              have u4 : (0 : Int) ≤ (j : Int) := by omega
              have hwj : IntKind.i64.wrap ((j : Int) + 1) = ((j + 1 : Nat) : Int) := by rw [IntKind.wrap_i64]; omega
              obtain ⟨y, hy⟩ : ∃ y, ps.getD j [] = y := ⟨_, rfl⟩
              have hjp : j < ps.length := by rw [HM.out.1]; exact hjl
              have hyj : ps[j] = y := by rw [← hy, List.getD_eq_getElem?_getD, List.getElem?_eq_getElem hjp]; rfl
              obtain ⟨g, kv', ev, hgb, hgl, hgk, -, hgc, hgf⟩ := own_full14 HS6.out.ow (by omega)
              injection ev with ev1 ev2 ev3
              subst ev1 ev3
              have xj := hgc j (by rw [psC_len]; exact hjp)
              rw [show (psC ps)[j]? = some (.string (mkS y)) from by unfold psC; rw [List.getElem?_map, List.getElem?_eq_getElem hjp, hyj]; rfl] at xj
              have hcmp : ((mkS y).toList == (mkS x.path).toList) = decide (y = x.path) := by
                rw [mkS_toList, mkS_toList]
                by_cases h : y = x.path
                · simp [h]
                · simp [h]
              have HY := Lib.hid (And.intro hy (show ps[j]? = some y by rw [List.getElem?_eq_getElem hjp, hyj]))
              have HG := Lib.hid (And.intro hgc hgf)
              obtain ⟨YS, hYS⟩ : ∃ YS, mkS y = YS := ⟨_, rfl⟩
              obtain ⟨XS, hXS⟩ : ∃ XS, mkS x.path = XS := ⟨_, rfl⟩
              rw [hYS] at xj
              rw [hYS, hXS] at hcmp
              rw [hXS] at y1
              clear hgc hgf hyj hYS hXS hjp hy
              by_cases hyp : y = x.path
              · rw [decide_eq_true hyp] at hcmp
                have hlen' : (psC ps).length = m := by rw [psC_len]; exact HM.out.1
                obtain ⟨news, hnews⟩ : ∃ news, news = (psC ps).drop (j + 1) := ⟨_, rfl⟩
                have hnl : news.length = (m - (j + 1)) * 1 := by rw [hnews, List.length_drop, hlen']; omega
                rcases HS6.out.ow.2 with ⟨hv0, -⟩ | ⟨g', cap', cur, hv, hb', hh, hle', hcm, hsz, htk⟩
                · cases hv0
                · injection hv with e1 e2 e3
                  injection e1 with e1
                  injection e1 with e1
                  subst e1 e3
                  have hcell : ∀ u, u < kv → w6.cell? ⟨g, u, none⟩ = cur[u]? := fun u hu => by unfold World.cell?; rw [hh]; simp
                  have hfz : ∀ u, w6.frozen? ⟨g, u, none⟩ = false := fun u => by unfold World.frozen?; rw [hh]; simp
                  have hm' := HM.out.1
                  have hget : ∀ t u, news[t]? = some u → cur[j + 1 + t]? = some u := fun t u hu => by
                    rw [hnews, List.getElem?_drop] at hu
                    have hlt' : j + 1 + t < m := by have := (List.getElem?_eq_some_iff.1 hu).1; omega
                    rw [← htk, List.getElem?_take, if_pos (by omega), Array.getElem?_toList] at hu
                    exact hu
                  obtain ⟨A, hA, hsrc⟩ : ∃ A : Addr, (if kv = j + 1 then (some ⟨g, 0, none⟩ : Option Addr) else some ⟨g, j + 1, none⟩) = some A ∧ Hd (∀ t u, news[t]? = some u → w6.drew.cell? (A.add t) = some u) := by
                    by_cases hc : kv = j + 1
                    · refine ⟨⟨g, 0, none⟩, by simp [hc], fun t u hu => ?_⟩
                      have h0 : news.length = 0 := by rw [hnl]; omega
                      rw [List.length_eq_zero_iff.1 h0] at hu
                      simp at hu
                    · refine ⟨⟨g, j + 1, none⟩, by simp [hc], fun t u hu => ?_⟩
                      have h2 := hget t u hu
                      have hlt' := (Array.getElem?_eq_some_iff.1 h2).1
                      rw [Addr.add_mid]
                      show w6.cell? _ = _
                      rw [hcell _ (by omega)]
                      exact h2
                  have s1 : Hd (news.length = (m - (j + 1)) * 1) := hnl
                  have s2 : Hd (∀ u ∈ news, u.oneCell' = true) := fun u hu => by
                    rw [hnews] at hu
                    exact psC_one ps u (List.drop_subset _ _ hu)
                  have s3 : Hd (∀ t, t < news.length → (w6.drew.cell? ⟨g, 0 + j * 1 + t, none⟩).isSome = true ∧ w6.drew.frozen? ⟨g, 0 + j * 1 + t, none⟩ = false) := fun t ht' => by
                    refine ⟨?_, hfz _⟩
                    show (w6.cell? _).isSome = true
                    rw [show 0 + j * 1 + t = j + t by omega, hcell _ (by omega)]
                    have : j + t < cur.size := by omega
                    simp [this]
                  obtain ⟨W1, hW1⟩ : ∃ W1, W1 = w6.drew.setCells g (0 + j * 1) news := ⟨_, rfl⟩
                  have hg1 : W1.heap[g]? = some (.cells (setL cur (0 + j * 1) news) TSt (0, 0)) := by rw [hW1]; exact setCells_heap g news _ _ cur TSt (0, 0) hh
                  have hk1 : KpF (fun k => (Value.slice (some ⟨g, 0, none⟩) ps.length kv).ownBlock = some k) w6 W1 := by rw [hW1]; exact (KpF.drew w6).trans (setCells_kpF (S := fun k => (Value.slice (some ⟨g, 0, none⟩) ps.length kv).ownBlock = some k) g rfl news _ _)
                  have hcut := filt_cut ((HQ.out.p.nodup_iff).2 (HQ.out.nd HI.out.nd)) (i := j) (by omega)
                  have hyx : ps[j]'(by omega) = x.path := by
                    have h1 := HY.out.2
                    rw [List.getElem?_eq_getElem (by omega)] at h1
                    injection h1 with h1
                    rw [h1, hyp]
                  rw [hyx] at hcut
                  have hl2 : (ps.take j ++ ps.drop (j + 1)).length = m - 1 := by simp; omega
                  have hdl := del_list1 (n := m) (i := j) cur hlen' (by rw [← htk, hm', Nat.mul_one]) (by omega) hjl
                  have hO7 : W1.ownsRow w.heap.size TSt 1 (.slice (some ⟨g, 0, none⟩) (m - 1) kv) (ps.take j ++ ps.drop (j + 1)).length (psC (ps.take j ++ ps.drop (j + 1))) := by
                    rw [hl2]
                    refine ⟨by rw [psC_len, hl2, Nat.mul_one], .inr ⟨g, kv, _, rfl, hb', hg1, by omega, hcm, by rw [setL_size]; exact hsz, ?_⟩⟩
                    rw [Nat.mul_one, show 0 + j * 1 = j by omega, hnews, hdl]
                    unfold psC
                    rw [List.map_append, List.map_take, List.map_drop]
                  have HS7 := Lib.hid (HS6.out.row (v' := .slice (some ⟨g, 0, none⟩) (m - 1) kv) hO7 hk1 (.inl rfl))
                  have HQ7 := Lib.hid (HQ.out.drop x.path _ hcut)
                  have X : Hd (W1 = w6.drew.setCells g (0 + j * 1) news) := hW1
                  have i1 : j ≤ kv := by omega
                  have i2 : j + 1 ≤ kv := by omega
                  have i3 : j + 1 ≤ m := by omega
                  have i4 : m ≤ kv := by omega
                  have i5 : (j : Int) ≤ (kv : Int) := by omega
                  have i6 : ((j : Int) + 1) ≤ (m : Int) := by omega
                  have i7 : (m : Int) ≤ (kv : Int) := by omega
                  have i8 : (0 : Int) ≤ (j : Int) + 1 := by omega
                  have i9 : ((j : Int) + 1).toNat = j + 1 := by omega
                  have i10 : j + (m - (j + 1)) = m - 1 := by omega
                  clear hg1 hk1 hcell hfz hget hW1 hdl htk hlen' hnews hnl hh hsz hcm hle' hb' hO7 hl2 hcut hyx hyp e2
                  go_wp2_with fail
                  go_region_law (first | (refine step_append_room rfl (.tmp 110) (.tmp 114) TSs rfl TSt _ 1 elStr14.und rfl rfl g 0 j kv (by simp [Act.eval, Act.put]) A (m - (j + 1)) (kv - (j + 1)) news (by rw [← hA]; simp [Act.eval, Act.put]) s1.out hsrc.out s2.out (by omega) s3.out ?_; rw [← X.out]))
                  all_goals go_wp2
                  all_goals exact ⟨⟨k + 1, HNK.out, rfl, _, _, _, _, HS7.out, HI7.out, HQ7.out⟩, by simp [intOf]; have := HNK.out; omega⟩
              · rw [decide_eq_false hyp] at hcmp
                have HNE2 := Lib.hid (show ∀ i, i < j + 1 → ps.getD i [] ≠ x.path from fun i hi => by
                  by_cases h : i = j
                  · subst h; rw [HY.out.1]; exact hyp
                  · exact HNE.out i (by omega))
                clear hyp hjl
                go_wp2
                exact ⟨⟨j + 1, by omega, rfl, rfl, HNE2.out, by first | rfl | trivial⟩, by simp [intOf]; omega⟩
            · obtain rfl : j = m := by omega
              exfalso
              have h1 := (HQ.out.has x.path).1 HHS.out
              obtain ⟨i, hi, e⟩ := List.getElem_of_mem h1
              have := HNE.out i (by rw [← HM.out.1]; exact hi)
              rw [List.getD_eq_getElem?_getD, List.getElem?_eq_getElem hi] at this
              exact this e
      · have r1 : (x.kind : Int) % 4 = 3 := by omega
        clear hkd
        cases hbad : badB x.n with
        | true =>
          have HTB := Lib.hid (tick_bad b wa x.n hbad)
          have HI7 := Lib.hid HI.out.more
          have HS7 := HSA
          have HQ7 := HQ
          clear hbad
          go_wp2_with fail
          refine HTB.out.mono ?_
          rintro e w6 ⟨rfl, rfl⟩
          go_wp2
          exact ⟨⟨k + 1, HNK.out, rfl, _, _, _, _, HS7.out, HI7.out, HQ7.out⟩, by simp [intOf]; have := HNK.out; omega⟩
        | false =>
          have hgood := hbad
          clear hbad
          obtain ⟨h, h1, h2, hz⟩ := good_halfB hgood
          have HTG := Lib.hid (tick_go HSA.out.ln HI.out.oe HI.out.os (by have := HI.out.len; have := HNN.out; omega) (by have := HI.out.ck; have := HNN.out; omega) x.n h h1 h2 hz)
          clear hgood h1 h2 hz
          go_wp2_with fail
          refine HTG.out.mono ?_
          rintro e w7 ⟨v7, ns, rfl, hO7, hpn, hby, hL7, hK7⟩
          have HS7 := Lib.hid (HSA.out.call hL7 hK7)
          have HI7 := Lib.hid (HI.out.tick h hpn)
          have HQ7 := Lib.hid (HQ.out.tick h hpn)
          clear hO7 hpn hby hL7 hK7 a0 a1 a2
          go_wp2
          exact ⟨⟨k + 1, HNK.out, rfl, _, _, _, _, HS7.out, HI7.out, HQ7.out⟩, by simp [intOf]; have := HNK.out; omega⟩
    · obtain rfl : k = n := by omega
      have z1 : ¬ (k : Int) < (k : Int) := by omega
      have z2 : decide ((k : Int) < (k : Int)) = false := decide_eq_false z1
      have z3 : decide (k < k) = false := decide_eq_false hlt
      clear hlt hk
      obtain ⟨r, hr⟩ : ∃ r : Nat, hf % 100 = r := ⟨_, rfl⟩
      have hrb : r < 100 := by rw [← hr]; exact Nat.mod_lt _ (by decide)
      have hq1 : (hf : Int) % 100 = (r : Int) := by omega
      obtain ⟨c1, hc1⟩ : ∃ c : Nat, 2 * r = c := ⟨_, rfl⟩
      obtain ⟨bb, hbb⟩ : ∃ c : Nat, 2 + c1 = c := ⟨_, rfl⟩
      have hq2 : IntKind.i64.wrap (2 * (r : Int)) = (c1 : Int) := by rw [IntKind.wrap_i64]; omega
      have hq3 : IntKind.i64.wrap (2 + (c1 : Int)) = (bb : Int) := by rw [IntKind.wrap_i64]; omega
      have HBB := Lib.hid (show bb = 2 * (r + 1) ∧ r < 100 by omega)
      have HCK := Lib.hid (clock_any HS.out.ln)
      clear hr hrb hc1 hbb
      go_wp2_with fail
      refine HCK.out.mono ?_
      rintro e w6 ⟨rfl, rfl⟩
      clear hq1 hq2 hq3
      have hmm := @run_makeMap Tryd.prog
      obtain ⟨md, hmd⟩ : ∃ md, wr.heap.size = md := ⟨_, rfl⟩
      obtain ⟨wd, hwd⟩ : ∃ wd, wr.alloc (.map #[] 0) = wd := ⟨_, rfl⟩
      have hBd : Below wr.heap.size wr wd := by rw [← hwd]; exact (Below.refl _ _).alloc (Nat.le_refl _) _
      have HD0 := Lib.hid (show DnS w wd md F (fun _ => 0) (blF Q) (fun _ _ => false) [] from ⟨by rw [← hwd, ← hmd]; exact MpB.made wr, (fun p hp => by cases hp), (fun p hp => by cases hp), (fun p hp => by cases hp), ⟨fun hc => by have := (HS.out.fl md hc).2; omega, by have := HS.out.bel.size; omega⟩⟩)
      have HSd := Lib.hid (HS.out.next hBd)
      have HDM := Lib.hid (show md ≠ mb from fun e => by have := HS.out.mp.lt; omega)
      obtain ⟨m, hm⟩ : ∃ m, ps.length = m := ⟨_, rfl⟩
      have hmb2 : m ≤ 100 := by
        have h1 := HQ.out.p.length_eq
        have h2 := HQ.out.paths.length_eq
        have h3 := HI.out.len
        have h4 := HN60.out
        simp only [List.length_map, List.length_append] at h1 h2
        omega
      have HM := Lib.hid (And.intro hm hmb2)
      rw [hm]
      clear hBd hm
      go_wp2
      clear hmm hwd hmd
      go_loopw [128] (fun v wq => ∃ j : Nat, j ≤ m ∧ v = .int .i64 (j : Int) ∧ ∃ G, DnS w wq md F G (blF Q) (fun _ _ => false) (ps.take j) ∧ LbS w wq b mb F s Q (.slice pv ps.length kv) ps) (fun v _ => m - (intOf v).toNat)
      case atStart => exact ⟨0, Nat.zero_le _, rfl, _, HD0.out, HSd.out⟩
      case round =>
        rename World => wq
        obtain ⟨j, hj, rfl, G, hD, hS⟩ := hrel
        have HD := Lib.hid hD
        have HSq := Lib.hid hS
        clear hD hS HD0 HSd
        by_cases hjl : j < m
        · have u1 : (j : Int) < (m : Int) := by omega
          have u2 : decide ((j : Int) < (m : Int)) = true := decide_eq_true u1
          have u3 : decide (j < m) = true := decide_eq_true hjl
          have u4 : (0 : Int) ≤ (j : Int) := by omega
          have hwj : IntKind.i64.wrap ((j : Int) + 1) = ((j + 1 : Nat) : Int) := by rw [IntKind.wrap_i64]; omega
          have hjp : j < ps.length := by rw [HM.out.1]; exact hjl
          obtain ⟨y, hy⟩ : ∃ y, ps[j] = y := ⟨_, rfl⟩
          obtain ⟨g, kv', ev, hgb, hgl, hgk, -, hgc, hgf⟩ := own_full14 HSq.out.ow (by omega)
          injection ev with ev1 ev2 ev3
          subst ev1 ev3
          have xj := hgc j (by rw [psC_len]; exact hjp)
          rw [show (psC ps)[j]? = some (.string (mkS y)) from by unfold psC; rw [List.getElem?_map, List.getElem?_eq_getElem hjp, hy]; rfl] at xj
          have hyp : y ∈ ps := by rw [← hy]; exact List.getElem_mem hjp
          obtain ⟨fb, hfq, hfp⟩ := List.mem_map.1 (HQ.out.p.mem_iff.1 hyp)
          have hbl := blF_at (HQ.out.nd HI.out.nd) hfq
          rw [hfp] at hbl
          have hfb : fb.blocks ≤ 64 := blk_in HQ.out HI.out hfq
          obtain ⟨nn, hnn⟩ : ∃ nn, fb.blocks = nn := ⟨_, rfl⟩
          have hnb : nn < 4294967296 := by omega
          have hlk := run_lookup8 (P := Tryd.prog) miT stT14 (zeroIn14 wq) HSq.out.mp y false
          rw [show findV (bmV Q) y = some (.int .i64 (nn : Int)) from by rw [← hnn, ← hfp]; exact bm_at (HQ.out.nd HI.out.nd) hfq] at hlk
          change (Instr.lookup TMi (.map (some mb)) (.string (mkS y)) false).run Tryd.prog wq = .ok (.int .i64 (nn : Int)) wq at hlk
          obtain ⟨g1, hg1⟩ : ∃ g1, wq.heap.size = g1 := ⟨_, rfl⟩
          obtain ⟨u1', hu1⟩ : ∃ u1', wq.alloc (.cells (tab nn (fun _ => .bool false)) TBo) = u1' := ⟨_, rfl⟩
          have hBu : Below wq.heap.size wq u1' := by rw [← hu1]; exact (Below.refl _ _).alloc (Nat.le_refl _) _
          have hDu := HD.out.mp.of_below hBu
          obtain ⟨u2', hrun, m1, m2, m3⟩ := run_update8 (P := Tryd.prog) mbT14 stT14 hDu y (.slice (some ⟨g1, 0, none⟩) nn nn)
          have hnd := (HQ.out.p.nodup_iff).2 (HQ.out.nd HI.out.nd)
          have hni : ¬ y ∈ ps.take j := fun hc => by
            obtain ⟨i, hi, e⟩ := List.getElem_of_mem hc
            rw [List.length_take] at hi
            rw [List.getElem_take, ← hy] at e
            have := (List.getElem_inj hnd).1 e
            omega
          have hmore := HD.out.more hni nn (by rw [hbl, hnn]) hg1 hu1 m1 m2 (fun k hk => (HSq.out.fl k hk).2) HSq.out.bel.size
          rw [show ps.take j ++ [y] = ps.take (j + 1) from by rw [← hy, List.take_succ_eq_append_getElem hjp]] at hmore
          have hSu : LbS w u2' b mb F s Q (.slice (some ⟨g, 0, none⟩) ps.length kv) ps := (HSq.out.next hBu).off m2 HD.out.nm HDM.out (by obtain ⟨es, clk, hb, -⟩ := hDu; exact ⟨es, clk, hb⟩)
          have HMO := Lib.hid (And.intro hmore hSu)
          clear hgc hgf hjp hy hyp hfq hfp hbl hfb hBu hDu m1 m2 m3 hnd hni hmore hSu hnn hj hjl
          go_wp2
          exact ⟨⟨j + 1, by omega, rfl, _, HMO.out.1, HMO.out.2⟩, by simp [intOf]; omega⟩
        · obtain rfl : j = m := by omega
          have v1 : ¬ (j : Int) < (j : Int) := by omega
          have v2 : decide ((j : Int) < (j : Int)) = false := decide_eq_false v1
          have v3 : decide (j < j) = false := decide_eq_false hjl
          have hDp := HD.out
          rw [← HM.out.1, List.take_length] at hDp
          have HDp := Lib.hid hDp
          clear hDp HD hj hjl
          obtain ⟨B, hB⟩ : ∃ B, blk s.en + blk s.sc = B := ⟨_, rfl⟩
          have hBb : B ≤ 3840 := by
            have h1 := blk_bound s.en HI.out.oe
            have h2 := blk_bound s.sc HI.out.os
            have h3 := HI.out.len
            have h4 := HN60.out
            omega
          have hbk := blocks_any HSq.out.ln (by have := HI.out.len; have := HN60.out; omega) (by have := HI.out.len; have := HN60.out; omega) (fun f hf => by
            rcases List.mem_append.1 hf with h1 | h1
            · exact (HI.out.oe f h1).2
            · exact (HI.out.os f h1).2)
          rw [hB] at hbk
          have HBK := Lib.hid hbk
          have hbbv := HBB.out
          obtain ⟨e1, he1⟩ : ∃ e, 2 * B = e := ⟨_, rfl⟩
          obtain ⟨e2, he2⟩ : ∃ e, e1 + bb = e := ⟨_, rfl⟩
          obtain ⟨e3, he3⟩ : ∃ e, e2 - 1 = e := ⟨_, rfl⟩
          obtain ⟨e4, he4⟩ : ∃ e, e3 / bb = e := ⟨_, rfl⟩
          obtain ⟨T, hT⟩ : ∃ e, e4 + 2 = e := ⟨_, rfl⟩
          have he4b : e4 ≤ 10000 := by rw [← he4]; exact Nat.le_trans (Nat.div_le_self _ _) (by omega)
          have hmany : B + 2 * (r + 1) ≤ T * (r + 1) := by
            rw [← hT]
            refine ticks_many (by omega) ?_
            rw [← hbbv.1, he1]
            rw [show e1 + bb - 1 = e3 by omega]
            exact he4
          have q1 : IntKind.i64.wrap (2 * (B : Int)) = (e1 : Int) := by rw [IntKind.wrap_i64]; omega
          have q2 : IntKind.i64.wrap ((e1 : Int) + (bb : Int)) = (e2 : Int) := by rw [IntKind.wrap_i64]; omega
          have q3 : IntKind.i64.wrap ((e2 : Int) - 1) = (e3 : Int) := by rw [IntKind.wrap_i64]; omega
          have q4 : (e3 : Int) / (bb : Int) = (e4 : Int) := by rw [← he4]; exact (Int.natCast_ediv e3 bb).symm
          have q4b : Int.tdiv (e3 : Int) (bb : Int) = (e4 : Int) := by rw [Int.tdiv_eq_ediv_of_nonneg (by omega)]; exact q4
          have q5 : ((bb : Int) == 0) = false := by simp; omega
          have q5b : ¬ (bb : Int) = 0 := by omega
          have q6 : IntKind.i64.wrap ((e4 : Int) + 2) = (T : Int) := by rw [IntKind.wrap_i64]; omega
          have q7h : e4 < 1000000 := by omega
          have HTM := Lib.hid (And.intro hmany (show T ≤ 20000 by omega))
          have HBt := Lib.hid hB
          have q7 : wrap64 (e4 : Int) = (e4 : Int) := w64n e4 q7h
          have HFI := Lib.hid (show ∀ f ∈ s.en ++ s.sc, FileI B (r + 1) s.clock f.path f.blocks f.done 0 s (fun _ _ => false) from fun f hf => by rw [← hB]; exact HI.out.start hf)
          have HBN := Lib.hid (show BndI B (r + 1) s.clock s from ⟨HI.out.oe, HI.out.os, hB, Nat.le_refl _⟩)
          clear hB hBb hbk hbbv he1 he2 he3 he4 hT he4b hmany q7h
          go_wp2_with fail
          refine HBK.out.mono ?_
          rintro e w7 ⟨rfl, hB7⟩
          have HS7 := Lib.hid (HSq.out.next hB7)
          have HD7 := Lib.hid (HDp.out.next hB7)
          clear hB7 HSq HDp HBK
          go_wp2
          clear q1 q2 q3 q4 q4b q6 q7
          go_loopw [148] (fun v wt => ∃ t : Nat, t ≤ T ∧ v = .int .i64 (t : Int) ∧ ∃ F s' C, LbS w wt b mb F s' Q (.slice pv ps.length kv) ps ∧ DnS w wt md F G (blF Q) C ps ∧ LbI s' (60 + t) ∧ LbQ s' Q ps ∧ BndI B (r + 1) s.clock s' ∧ ∀ f ∈ s.en ++ s.sc, FileI B (r + 1) s.clock f.path f.blocks f.done t s' C) (fun v _ => T - (intOf v).toNat)
          case atStart => exact ⟨0, Nat.zero_le _, rfl, _, _, _, HS7.out, HD7.out, ⟨HI.out.nd, HI.out.oe, HI.out.os, HI.out.he, HI.out.hs, by have := HI.out.len; have := HN60.out; omega, by have := HI.out.ck; have := HN60.out; omega⟩, HQ.out, HBN.out, HFI.out⟩
          case round =>
            rename World => wt
            obtain ⟨t, ht, rfl, F, s', C, hS, hD, hI', hQ', hBn, hFi⟩ := hrel
            have HSt := Lib.hid hS
            have HDt := Lib.hid hD
            have HIt := Lib.hid hI'
            have HQt := Lib.hid hQ'
            have HBt2 := Lib.hid hBn
            have HFt := Lib.hid hFi
            clear hS hD hI' hQ' hBn hFi HS7 HD7
            by_cases htl : t < T
            · have u1 : (t : Int) < (T : Int) := by omega
              have u2 : decide ((t : Int) < (T : Int)) = true := decide_eq_true u1
              have u3 : decide (t < T) = true := decide_eq_true htl
              have hwt : IntKind.i64.wrap ((t : Int) + 1) = ((t + 1 : Nat) : Int) := by rw [IntKind.wrap_i64]; have := HTM.out.2; omega
              have HTT := Lib.hid (show t + 1 ≤ T by omega)
              have HTK := Lib.hid (tick_go HSt.out.ln HIt.out.oe HIt.out.os (by have := HIt.out.len; have := HTM.out.2; omega) (by have := HIt.out.ck; have := HTM.out.2; omega) (bb : Int) (r + 1) (by omega) (by have := HBB.out; omega) (by have := HBB.out; omega))
              clear htl ht
              go_wp2_with fail
              refine HTK.out.mono ?_
              rintro e wT ⟨v7, ns, rfl, hO7, hpn, hby, hL7, hK7⟩
              have HST := Lib.hid (HSt.out.call hL7 hK7)
              have HDT := Lib.hid (HDt.out.call hK7)
              have HIT := Lib.hid (HIt.out.tick (r + 1) hpn)
              have HQT := Lib.hid (HQt.out.tick (r + 1) hpn)
              have HBT := Lib.hid (HBt2.out.tick hpn)
              have HFT := Lib.hid (fun f hf => FileI.tick HBt2.out hpn (show f.done ≤ f.blocks from by
                rcases List.mem_append.1 hf with h1 | h1
                · exact (HI.out.oe f h1).1
                · exact (HI.out.os f h1).1) (HFt.out f hf))
              obtain ⟨out, hout⟩ : ∃ out, tickOut s' (r + 1) = out := ⟨_, rfl⟩
              obtain ⟨FF, hFF⟩ : ∃ FF, newF F wt wT = FF := ⟨_, rfl⟩
              obtain ⟨sT, hsT⟩ : ∃ sT, tickS s' (r + 1) ns = sT := ⟨_, rfl⟩
              rw [hout] at hO7 HFT
              rw [hFF] at HST HDT
              rw [hsT] at HST HIT HQT HBT HFT
              have HIN := Lib.hid (show ∀ x ∈ out, x.path ∈ ps ∧ x.lo ≤ x.hi ∧ x.hi ≤ blF Q x.path ∧ x.hi ≤ 64 from fun x hx => by
                rw [← hout] at hx
                obtain ⟨f, hf, e1, e2, e3⟩ := tick_in HIt.out (r + 1) x hx
                have h1 : (f.path, f.blocks) ∈ pbL Q := HQt.out.q.mem_iff.2 (List.mem_map.2 ⟨f, hf, rfl⟩)
                obtain ⟨g, hg, e⟩ := List.mem_map.1 h1
                injection e with e4 e5
                have h2 := blF_at (HQt.out.nd HIt.out.nd) hg
                have h3 := blk_in HQt.out HIt.out hg
                rw [e4, e1] at h2
                exact ⟨HQt.out.p.mem_iff.2 (List.mem_map.2 ⟨g, hg, by rw [e4, e1]⟩), e2, by omega, by omega⟩)
              have HGL := Lib.hid (show ∀ p ∈ ps, G p < wt.heap.size from fun p hp => (Array.getElem?_eq_some_iff.1 (HDt.out.row p hp)).1)
              have HSU := Lib.hid (show sumW out ≤ bb from by rw [← hout, HBB.out.1]; exact tick_sum HIt.out (r + 1))
              obtain ⟨p7, k7, e7, hls7, -, hle7, hb7⟩ := own_shape hO7
              subst e7
              obtain ⟨m7, hm7⟩ : ∃ m7, out.length = m7 := ⟨_, rfl⟩
              rw [hm7]
              have hm7b : m7 ≤ 100000 := by
                rw [← hm7, ← hout]
                unfold tickOut
                rw [List.length_append]
                have a1 := workL_out_le (s'.clock + 1) true s'.en (r + 1)
                have a2 := workL_out_le (s'.clock + 1) false s'.sc ((tickA s' (r + 1)).left + (r + 1))
                have a3 := HIt.out.len
                have a4 := HTM.out.2
                have a5 := HTT.out
                unfold tickB
                unfold tickA at *
                omega
              have HO7 := Lib.hid (And.intro hO7 (And.intro hm7 hm7b))
              clear hO7 hpn hby hL7 hK7 hls7 hle7 hb7 hm7 hm7b hout hFF hsT HSt HDt HIt HQt HBt2 HFt HTK
              go_wp2
              go_loopw [21, 160] (fun v21 v wq => ∃ i : Nat, i ≤ m7 ∧ v = .int .i64 (i : Int) ∧ v21 = .int .i64 ((sumW (out.take i) : Nat) : Int) ∧ KpF (fun g => ∃ p ∈ ps, g = G p) wT wq ∧ DnS w wq md FF G (blF Q) (fun p j => C p j || covW (out.take i) p j) ps) (fun _ v _ => m7 - (intOf v).toNat)
              case atStart => exact ⟨0, Nat.zero_le _, rfl, rfl, KpF.refl _ _, HDT.out.congr fun p _ j _ => by simp [covW]⟩
              case round =>
                rename World => wq
                obtain ⟨i, hi, rfl, rfl, hKq, hDq⟩ := hrel
                have HKq := Lib.hid hKq
                have HDq := Lib.hid hDq
                clear hKq hDq
                by_cases hil : i < m7
                · have y1 : (i : Int) < (m7 : Int) := by omega
                  have y2 : decide ((i : Int) < (m7 : Int)) = true := decide_eq_true y1
                  have y3 : decide (i < m7) = true := decide_eq_true hil
                  have y4 : (0 : Int) ≤ (i : Int) := by omega
                  have hwi : IntKind.i64.wrap ((i : Int) + 1) = ((i + 1 : Nat) : Int) := by rw [IntKind.wrap_i64]; have := HO7.out.2.2; omega
                  have hio : i < out.length := by rw [HO7.out.2.1]; exact hil
                  have hO7 := HO7.out.1
                  have hbs : ∀ g, (Value.slice p7 out.length k7).ownBlock = some g → ¬ ∃ p ∈ ps, g = G p := fun g hg ⟨p, hp, e⟩ => by
                    have h1 := (hO7.lt g hg).1
                    have h2 := HGL.out p hp
                    omega
                  have hO7q := own_kpF hO7 HKq.out hbs
                  obtain ⟨g7, k7', ev, hgb, hgl, hgk, -, hgc, hgf⟩ := own_full14 hO7q (by omega)
                  injection ev with ev1 ev2 ev3
                  subst ev1 ev3
                  obtain ⟨x, hx⟩ : ∃ x, out[i] = x := ⟨_, rfl⟩
                  have hxm : x ∈ out := by rw [← hx]; exact List.getElem_mem hio
                  have hxi := HIN.out x hxm
                  have hF : ∀ j, j < 5 → wq.cell? ⟨g7, i * 5 + j, none⟩ = (wkC x)[j]? := fun j hj => by
                    rw [hgc (i * 5 + j) (by rw [wksC_len]; omega), wksC_get out i j hio hj]
                    rw [List.getD_eq_getElem?_getD, List.getElem?_eq_getElem hio, ← hx]
                    rfl
                  have f0 : wq.cell? ⟨g7, i * 5, none⟩ = some (.string (mkS x.path)) := hF 0 (by decide)
                  have f1 : wq.cell? ⟨g7, i * 5 + 1, none⟩ = some (.int .i64 (x.lo : Int)) := hF 1 (by decide)
                  have f2 : wq.cell? ⟨g7, i * 5 + 2, none⟩ = some (.int .i64 (x.hi : Int)) := hF 2 (by decide)
                  have f3 : wq.cell? ⟨g7, i * 5 + 3, none⟩ = some (.bool x.en) := hF 3 (by decide)
                  have f4 : wq.cell? ⟨g7, i * 5 + 4, none⟩ = some (.bool x.fin) := hF 4 (by decide)
                  obtain ⟨xb, hxb⟩ : ∃ xb, wq.heap.size = xb := ⟨_, rfl⟩
                  obtain ⟨wx, hwx⟩ : ∃ wx, wq.alloc (.cells #[.string (mkS x.path), .int .i64 (x.lo : Int), .int .i64 (x.hi : Int), .bool x.en, .bool x.fin] EW) = wx := ⟨_, rfl⟩
                  have hBx : Below wq.heap.size wq wx := by rw [← hwx]; exact (Below.refl _ _).alloc (Nat.le_refl _) _
                  have hxx : wx.heap[xb]? = some (.cells #[.string (mkS x.path), .int .i64 (x.lo : Int), .int .i64 (x.hi : Int), .bool x.en, .bool x.fin] EW (0, 0)) := by rw [← hwx, ← hxb]; exact World.alloc_heap_new _ _
                  obtain ⟨b0, b1, b2, b3, b4, -⟩ := five14 hxx
                  obtain ⟨S0, hS0⟩ : ∃ S0, sumW (out.take i) = S0 := ⟨_, rfl⟩
                  have hS0b : S0 + (x.hi - x.lo) ≤ bb := by
                    have h1 := sumW_takeB hio
                    have h2 := sumW_leB out (i + 1)
                    have h3 := HSU.out
                    rw [hx] at h1
                    omega
                  rw [hS0]
                  obtain ⟨dl, hdl⟩ : ∃ dl, x.hi - x.lo = dl := ⟨_, rfl⟩
                  have hw8 : IntKind.i64.wrap ((x.hi : Int) - (x.lo : Int)) = (dl : Int) := by rw [IntKind.wrap_i64]; omega
                  have hw9 : IntKind.i64.wrap ((S0 : Int) + (dl : Int)) = ((S0 + dl : Nat) : Int) := by rw [IntKind.wrap_i64]; have := HBB.out; omega
                  have HX := Lib.hid (And.intro hxi (And.intro hx (And.intro hio (And.intro hS0 hdl))))
                  have HXX := Lib.hid (And.intro hxx (And.intro hBx (And.intro hxb (show wt.heap.size ≤ xb by
                    rw [← hxb]
                    have h1 := HKq.out.size
                    have h2 := hgb
                    have h3 := hgl
                    omega))))
                  have HMI := Lib.hid (show i + 1 ≤ m7 by omega)
                  have HDX := Lib.hid (HDq.out.next hBx)
                  clear hO7 hbs hO7q hgb hgl hgk hgc hgf hxm hxi hF hBx hxx hS0b hS0 hdl hx hil hi
                  go_wp2
                  clear hw8 f0 f1 f2 f3 f4 hwx hxb
                  go_loopw [24] (fun v wk => ∃ kk : Nat, x.lo ≤ kk ∧ kk ≤ x.hi ∧ v = .int .i64 (kk : Int) ∧ KpF (fun g => ∃ p ∈ ps, g = G p) wx wk ∧ DnS w wk md FF G (blF Q) (fun p j => (C p j || covW (out.take i) p j) || (decide (x.path = p) && (decide (x.lo ≤ j) && decide (j < kk)))) ps) (fun v _ => x.hi - (intOf v).toNat)
                  case atStart => exact ⟨x.lo, Nat.le_refl _, HX.out.1.2.1, rfl, KpF.refl _ _, HDX.out.congr fun p _ j _ => by
                    by_cases h : x.lo ≤ j
                    · rw [decide_eq_false (show ¬ j < x.lo by omega)]; simp
                    · rw [decide_eq_false h]; simp⟩
                  case round =>
                    rename World => wk
                    obtain ⟨kk, hk1, hk2, rfl, hKk, hDk⟩ := hrel
                    have HKk := Lib.hid hKk
                    have HDk := Lib.hid hDk
                    have hxk := (hKk.block xb (Array.getElem?_eq_some_iff.1 HXX.out.1).1 (fun ⟨p, hp, e⟩ => by have h1 := HGL.out p hp; have h2 := HXX.out.2.2.2; omega)).trans HXX.out.1
                    obtain ⟨d0, d1, d2, d3, d4, -⟩ := five14 hxk
                    clear hKk hDk b0 b1 b2 b3 b4 hxk
                    by_cases hkl : kk < x.hi
                    · have x1 : (kk : Int) < (x.hi : Int) := by omega
                      have x2 : decide ((kk : Int) < (x.hi : Int)) = true := decide_eq_true x1
                      have x3 : decide (kk < x.hi) = true := decide_eq_true hkl
                      have x4 : decide ((kk : Int) < 0) = false := decide_eq_false (by omega)
                      have x5 : (0 : Int) ≤ (kk : Int) := by omega
                      obtain ⟨nb, hnb⟩ : ∃ nb, blF Q x.path = nb := ⟨_, rfl⟩
                      have hkn : kk < nb := by rw [← hnb]; have := HX.out.1.2.2.1; omega
                      have x6 : decide ((nb : Int) ≤ (kk : Int)) = false := decide_eq_false (by omega)
                      have x6b : decide (nb ≤ kk) = false := decide_eq_false (by omega)
                      have x7 : (kk : Int) < (nb : Int) := by omega
                      have hlk := run_lookup8 (P := Tryd.prog) mbT14 stT14 (zeroBs14 wk) HDk.out.mp x.path false
                      rw [dn_find _ _ _ _ HX.out.1.1, hnb] at hlk
                      change (Instr.lookup TMb (.map (some md)) (.string (mkS x.path)) false).run Tryd.prog wk = .ok (.slice (some ⟨G x.path, 0, none⟩) nb nb) wk at hlk
                      have hrow := HDk.out.row x.path HX.out.1.1
                      rw [hnb] at hrow
                      have hcl : ∃ u, wk.cell? ⟨G x.path, kk, none⟩ = some u := by
                        unfold World.cell?
                        rw [hrow]
                        simp only
                        exact ⟨_, tab_get _ _ _ hkn⟩
                      obtain ⟨u, hcl⟩ := hcl
                      have hfz : wk.frozen? ⟨G x.path, kk, none⟩ = false := by unfold World.frozen?; rw [hrow]; simp
                      have hwk : IntKind.i64.wrap ((kk : Int) + 1) = ((kk + 1 : Nat) : Int) := by rw [IntKind.wrap_i64]; have := HX.out.1.2.2.2; omega
                      have hmk := HDk.out.mark HX.out.1.1 (j := kk) (by rw [hnb]; exact hkn)
                      have HMK := Lib.hid (hmk.congr (C' := fun p j => (C p j || covW (out.take i) p j) || (decide (x.path = p) && (decide (x.lo ≤ j) && decide (j < kk + 1)))) (fun p _ j _ => by
                        by_cases hp : p = x.path
                        · subst hp
                          by_cases hj : j = kk
                          · subst hj
                            rw [decide_eq_true hk1, decide_eq_true (show j < j + 1 by omega)]
                            simp
                          · have e : decide (j < kk + 1) = decide (j < kk) := decide_eq_decide.2 (by omega)
                            rw [e]
                            simp [hj]
                        · rw [decide_eq_false hp, decide_eq_false (fun h => hp h.symm)]
                          simp))
                      have HKS := Lib.hid (HKk.out.trans (KpF.setCell (S := fun g => ∃ p ∈ ps, g = G p) wk ⟨G x.path, kk, none⟩ (.bool true) ⟨x.path, HX.out.1.1, rfl⟩))
                      have HKN := Lib.hid (show x.lo ≤ kk + 1 ∧ kk + 1 ≤ x.hi ∧ x.hi - (kk + 1) < x.hi - kk by omega)
                      clear hrow hmk hkn hnb hkl hk1 hk2
                      go_wp2
                      exact ⟨⟨kk + 1, HKN.out.1, HKN.out.2.1, rfl, HKS.out, HMK.out⟩, by simp [intOf]; have := HKN.out; omega⟩
                    · obtain rfl : kk = x.hi := by omega
                      have x1 : ¬ (x.hi : Int) < (x.hi : Int) := by omega
                      have x2 : decide ((x.hi : Int) < (x.hi : Int)) = false := decide_eq_false x1
                      have x3 : decide (x.hi < x.hi) = false := decide_eq_false hkl
                      have hbx : KpF (fun g => ∃ p ∈ ps, g = G p) wT wk := HKq.out.trans ((KpF.of_new HXX.out.2.1).trans HKk.out)
                      have hDn : DnS w wk md FF G (blF Q) (fun p j => C p j || covW (out.take (i + 1)) p j) ps := HDk.out.congr fun p _ j _ => by
                        rw [cov_take HX.out.2.2.1, HX.out.2.1, Bool.or_assoc]
                      have hsm : sumW (out.take (i + 1)) = S0 + dl := by
                        rw [sumW_takeB HX.out.2.2.1, HX.out.2.1, HX.out.2.2.2.1, HX.out.2.2.2.2]
                      have HEN := Lib.hid (And.intro hbx (And.intro hDn hsm))
                      clear hbx hDn hsm hkl hk1 hk2 hw9
                      go_wp2
                      refine ⟨⟨i + 1, HMI.out, rfl, by rw [HEN.out.2.2, Int.natCast_add], HEN.out.1, HEN.out.2.1⟩, by simp [intOf]; have := HMI.out; omega⟩
                · obtain rfl : i = m7 := by omega
                  have y1 : ¬ (i : Int) < (i : Int) := by omega
                  have y2 : decide ((i : Int) < (i : Int)) = false := decide_eq_false y1
                  have y3 : decide (i < i) = false := decide_eq_false hil
                  have hto : out.take i = out := by rw [← HO7.out.2.1, List.take_length]
                  rw [hto]
                  have hDq := HDq.out
                  rw [hto] at hDq
                  obtain ⟨S0, hS0⟩ : ∃ S0, sumW out = S0 := ⟨_, rfl⟩
                  have hSb : S0 ≤ bb := by rw [← hS0]; exact HSU.out
                  rw [hS0]
                  have y5 : decide ((bb : Int) < (S0 : Int)) = false := decide_eq_false (by omega)
                  have y6 : decide (bb < S0) = false := decide_eq_false (by omega)
                  have HEN := Lib.hid (And.intro (HST.out.keepG HDT.out HKq.out) hDq)
                  clear hto hDq hS0 hSb hil hi
                  go_wp2
                  exact ⟨⟨t + 1, HTT.out, rfl, FF, sT, _, HEN.out.1, HEN.out.2, HIT.out, HQT.out, HBT.out, HFT.out⟩, by simp [intOf]; have := HTT.out; omega⟩
            · obtain rfl : t = T := by omega
              have u1 : ¬ (t : Int) < (t : Int) := by omega
              have u2 : decide ((t : Int) < (t : Int)) = false := decide_eq_false u1
              have u3 : decide (t < t) = false := decide_eq_false htl
              have HP := Lib.hid (show ∀ p ∈ ps, (∃ g ∈ s'.sc, g.path = p ∧ s.clock < g.tick) ∧ ∀ j, j < blF Q p → C p j = true from fun p hp => by
                obtain ⟨f, hf, e1⟩ := List.mem_map.1 (HQ.out.p.mem_iff.1 hp)
                have h1 : (f.path, f.blocks) ∈ pbL (s.en ++ s.sc) := HQ.out.q.mem_iff.1 (List.mem_map.2 ⟨f, hf, rfl⟩)
                obtain ⟨g, hg, e⟩ := List.mem_map.1 h1
                injection e with e4 e5
                have h2 := (HFt.out g hg).done (by omega) HTM.out.1
                rw [e4, e1, e5, ← blF_at (HQ.out.nd HI.out.nd) hf, e1] at h2
                exact h2)
              have HEN := Lib.hid (show s'.en = [] from en_nil HIt.out.nd (fun f hf => by
                have h1 : f.path ∈ ps := HQt.out.p.mem_iff.2 (HQt.out.paths.mem_iff.2 (List.mem_map.2 ⟨f, List.mem_append_left _ hf, rfl⟩))
                obtain ⟨⟨g, hg, e, -⟩, -⟩ := HP.out _ h1
                exact ⟨g, hg, e⟩))
              clear htl ht HFt HBt2
              go_wp2
              go_loopw [203] (fun v wq => ∃ jj : Nat, jj ≤ j ∧ v = .int .i64 (jj : Int) ∧ LbS w wq b mb F s' Q (.slice pv ps.length kv) ps ∧ DnS w wq md F G (blF Q) C ps) (fun v _ => j - (intOf v).toNat)
              case atStart => exact ⟨0, Nat.zero_le _, rfl, HSt.out, HDt.out⟩
              case round =>
                rename World => wq
                obtain ⟨j', hj', rfl, hS, hD⟩ := hrel
                have HSq := Lib.hid hS
                have HDq := Lib.hid hD
                clear hS hD HSt HDt
                by_cases hjl : j' < j
                · have y1 : (j' : Int) < (j : Int) := by omega
                  have y2 : decide ((j' : Int) < (j : Int)) = true := decide_eq_true y1
                  have y3 : decide (j' < j) = true := decide_eq_true hjl
                  have y4 : (0 : Int) ≤ (j' : Int) := by omega
                  have hwj : IntKind.i64.wrap ((j' : Int) + 1) = ((j' + 1 : Nat) : Int) := by rw [IntKind.wrap_i64]; have := HM.out.2; omega
                  have hjp : j' < ps.length := by rw [HM.out.1]; exact hjl
                  obtain ⟨y, hy⟩ : ∃ y, ps[j'] = y := ⟨_, rfl⟩
                  have hyp : y ∈ ps := by rw [← hy]; exact List.getElem_mem hjp
                  obtain ⟨g, kv', ev, hgb, hgl, hgk, -, hgc, hgf⟩ := own_full14 HSq.out.ow (by omega)
                  injection ev with ev1 ev2 ev3
                  subst ev1 ev3
                  have xj := hgc j' (by rw [psC_len]; exact hjp)
                  rw [show (psC ps)[j']? = some (.string (mkS y)) from by unfold psC; rw [List.getElem?_map, List.getElem?_eq_getElem hjp, hy]; rfl] at xj
                  obtain ⟨⟨gf, hgf1, hgf2, hgf3⟩, hcov⟩ := HP.out y hyp
                  have hls := last_any HSq.out.ln (by have := HIt.out.len; have := HTM.out.2; omega) y
                  have hlv := last_sc HIt.out.nd hgf1
                  rw [hgf2] at hlv
                  rw [hlv.1, hlv.2] at hls
                  have HLS := Lib.hid hls
                  have z1 : decide ((gf.tick : Int) ≤ (s.clock : Int)) = false := decide_eq_false (by omega)
                  have z2 : decide (gf.tick ≤ s.clock) = false := decide_eq_false (by omega)
                  have HCV := Lib.hid (And.intro hyp hcov)
                  have HJN := Lib.hid (show j' + 1 ≤ j ∧ j - (j' + 1) < j - j' by omega)
                  clear hgb hgl hgk hgc hgf hjp hy hyp hgf1 hgf2 hgf3 hcov hls hlv hjl hj'
                  go_wp2_with fail
                  refine HLS.out.mono ?_
                  rintro e wk ⟨rfl, hBk⟩
                  have HSk := Lib.hid (HSq.out.next hBk)
                  have HDk := Lib.hid (HDq.out.next hBk)
                  obtain ⟨nb, hnb⟩ : ∃ nb, blF Q y = nb := ⟨_, rfl⟩
                  have hlk := run_lookup8 (P := Tryd.prog) mbT14 stT14 (zeroBs14 wk) HDk.out.mp y false
                  rw [dn_find _ _ _ _ HCV.out.1, hnb] at hlk
                  change (Instr.lookup TMb (.map (some md)) (.string (mkS y)) false).run Tryd.prog wk = .ok (.slice (some ⟨G y, 0, none⟩) nb nb) wk at hlk
                  have hrow := HDk.out.row y HCV.out.1
                  rw [hnb] at hrow
                  have HRW := Lib.hid (And.intro hrow (show ∀ i, i < nb → C y i = true from fun i hi => HCV.out.2 i (by rw [hnb]; exact hi)))
                  have hnb64 : nb ≤ 64 := by
                    obtain ⟨f, hf, e1⟩ := List.mem_map.1 (HQ.out.p.mem_iff.1 HCV.out.1)
                    have h2 := blF_at (HQ.out.nd HI.out.nd) hf
                    have h3 := blk_in HQ.out HI.out hf
                    rw [e1, hnb] at h2
                    omega
                  have HNB := Lib.hid hnb64
                  clear hBk HSq HDq HLS hrow hnb hnb64 xj
                  go_wp2
                  clear hlk
                  go_loopw [224] (fun v wz => ∃ i : Nat, i ≤ nb ∧ v = .int .i64 (i : Int) ∧ wk = wz) (fun v _ => nb - (intOf v).toNat)
                  case atStart => exact ⟨0, Nat.zero_le _, rfl, rfl⟩
                  case round =>
                    rename World => wz
                    obtain ⟨i, hi, rfl, rfl⟩ := hrel
                    by_cases hil : i < nb
                    · have x1 : (i : Int) < (nb : Int) := by omega
                      have x2 : decide ((i : Int) < (nb : Int)) = true := decide_eq_true x1
                      have x3 : decide (i < nb) = true := decide_eq_true hil
                      have x4 : (0 : Int) ≤ (i : Int) := by omega
                      have hcl : wk.cell? ⟨G y, i, none⟩ = some (.bool true) := by
                        unfold World.cell?
                        rw [HRW.out.1]
                        simp only [Option.isSome_none, Bool.false_eq_true, if_false]
                        rw [tab_get _ _ _ hil, HRW.out.2 i hil]
                      have hwi : IntKind.i64.wrap ((i : Int) + 1) = ((i + 1 : Nat) : Int) := by rw [IntKind.wrap_i64]; have := HNB.out; omega
                      have HIN := Lib.hid (show i + 1 ≤ nb ∧ nb - (i + 1) < nb - i by omega)
                      clear hil hi
                      go_wp2
                      exact ⟨⟨i + 1, HIN.out.1, rfl, by first | rfl | trivial⟩, by simp [intOf]; have := HIN.out; omega⟩
                    · obtain rfl : i = nb := by omega
                      have x1 : ¬ (i : Int) < (i : Int) := by omega
                      have x2 : decide ((i : Int) < (i : Int)) = false := decide_eq_false x1
                      have x3 : decide (i < i) = false := decide_eq_false hil
                      clear hil hi
                      go_wp2
                      exact ⟨⟨j' + 1, HJN.out.1, rfl, HSk.out, HDk.out⟩, by simp [intOf]; have := HJN.out; omega⟩
                · obtain rfl : j' = j := by omega
                  have y1 : ¬ (j' : Int) < (j' : Int) := by omega
                  have y2 : decide ((j' : Int) < (j' : Int)) = false := decide_eq_false y1
                  have y3 : decide (j' < j') = false := decide_eq_false hjl
                  have hwt2 := waiting_any HSq.out.ln (by rw [HEN.out]; exact Nat.zero_lt_succ _)
                  rw [HEN.out] at hwt2
                  have HWT := Lib.hid hwt2
                  clear hwt2 hjl hj'
                  go_wp2_with fail
                  refine HWT.out.mono ?_
                  rintro e wz ⟨vz, rfl, hOz, hBz⟩
                  obtain ⟨pz, kz, ez, -⟩ := own_shape hOz
                  subst ez
                  have HBz := Lib.hid (HSq.out.next hBz).bel
                  clear hOz hBz
                  go_wp2
                  go_ret
                  exact ⟨rfl, HBz.out⟩
end Go.Proofs.YtcgilacmdckbfaaDoor
