/- The program's disk as the statements' walks take it; a fixed fact. -/
import Derived.Test.YtjglgohchhdkkaaDoorPat8
import Derived.Lib.SlBytesConst
set_option linter.unusedSimpArgs false
set_option linter.unusedVariables false
namespace Go.Proofs.YtjglgohchhdkkaaDoor
open Go Go.RowKit

/-- Block b is the disk m; its memory is S. -/
def Dsk (w : World) (S : Nat → Prop) (b : Nat) (m : Dk) : Prop := ∃ mv md pv vs sl, Dp w S b m mv md pv vs sl
/-- Behind a call. -/
def Nxt (S : Nat → Prop) (b : Nat) (w : World) (m : Dk) (w' : World) : Prop := Dsk w' (SN S w.heap.size w'.heap.size) b m ∧ Kq8 S w w'
section
variable {w w' : World} {S : Nat → Prop} {b : Nat} {m : Dk}
theorem Dsk.of_below (h : Dsk w S b m) (hB : Below w.heap.size w w') : Dsk w' S b m := by
  obtain ⟨mv, md, pv, vs, sl, h⟩ := h
  exact ⟨mv, md, pv, vs, sl, h.of_below hB⟩
theorem Dsk.low (h : Dsk w S b m) : ∀ k, S k → k < w.heap.size := by
  obtain ⟨mv, md, pv, vs, sl, h⟩ := h
  exact h.low
/-- Another disk's call leaves it alone. -/
theorem Dsk.apart {S2 : Nat → Prop} (h : Dsk w S b m) (hk : Kq8 S2 w w') (ha : ∀ k, S k → ¬ S2 k) : Dsk w' S b m := by
  obtain ⟨mv, md, pv, vs, sl, h⟩ := h
  exact ⟨mv, md, pv, vs, sl, h.keep (fun k hs => hk.block k (h.low k hs) (ha k hs)) (fun _ x => x) (fun k hs => Nat.lt_of_lt_of_le (h.low k hs) hk.size)⟩
theorem dnew_any (room : Int) (w : World) : Calls Tryd.prog 7 #[.int .i64 room] w fun e w' => ∃ b, e = .returned (.pointer (some ⟨b, 0, none⟩)) ∧ Dsk w' (fun k => w.heap.size ≤ k ∧ k < w'.heap.size) b ⟨clampL room, 0, [], [], [], []⟩ ∧ Below w.heap.size w w' :=
  (new_any room w).mono fun e w' ⟨h1, h2, h3⟩ => ⟨_, h1, ⟨_, _, _, _, _, h2⟩, h3⟩
theorem dwrite_any (h : Dsk w S b m) (hok : DkOk 299 m) (h64 : m.seen.length ≤ 64) (hr0 : 0 ≤ m.room) (hr1 : m.room ≤ 1048576) (p x : S8) (q : Option Addr) (cap : Nat) (time : Int) (hp : p.length ≤ 1000) (hx : x.length ≤ 400000) (hl : LsG (fun k => ¬ S k) w q x.length cap 1 (bytC x)) : Calls Tryd.prog 8 #[.pointer (some ⟨b, 0, none⟩), .string (mkS p), .slice q x.length cap, .int .i64 time] w fun e w' => e = .returned (.int .i64 ((writeL m p x time).2 : Int)) ∧ Nxt S b w (writeL m p x time).1 w' := by
  obtain ⟨mv, md, pv, vs, sl, h⟩ := h
  rw [← writeQ_eq m p x time h64]
  exact write_any h hok hr0 hr1 p x q cap time hp hx hl
theorem drename_any (h : Dsk w S b m) (hok : DkOk 300 m) (p q : S8) (hp : p.length ≤ 1000) (hq : q.length ≤ 1000) : Calls Tryd.prog 9 #[.pointer (some ⟨b, 0, none⟩), .string (mkS p), .string (mkS q)] w fun e w' => e = .returned (.int .i64 ((renameL m p q).2 : Int)) ∧ Nxt S b w (renameL m p q).1 w' := by
  obtain ⟨mv, md, pv, vs, sl, h⟩ := h
  exact rename_any h hok p q hp hq
theorem dremove_any (h : Dsk w S b m) (hok : DkOk 300 m) (p : S8) (hp : p.length ≤ 1000) : Calls Tryd.prog 10 #[.pointer (some ⟨b, 0, none⟩), .string (mkS p)] w fun e w' => e = .returned (.int .i64 ((removeL m p).2 : Int)) ∧ Nxt S b w (removeL m p).1 w' := by
  obtain ⟨mv, md, pv, vs, sl, h⟩ := h
  exact remove_any h hok p hp
theorem dsync_any (h : Dsk w S b m) : Calls Tryd.prog 11 #[.pointer (some ⟨b, 0, none⟩)] w fun e w' => e = .returned (.tuple #[]) ∧ Nxt S b w (syncL m) w' := by
  obtain ⟨mv, md, pv, vs, sl, h⟩ := h
  exact sync_any h
theorem dcrash_any (h : Dsk w S b m) (hok : DkOk 300 m) (ks : List Bool) (q : Option Addr) (cap : Nat) (hkl : ks.length ≤ 1000) (hl : LsG (fun k => ¬ S k) w q ks.length cap 1 (ks.map Value.bool)) : Calls Tryd.prog 20 #[.pointer (some ⟨b, 0, none⟩), .slice q ks.length cap] w fun e w' => e = .returned (.tuple #[]) ∧ Nxt S b w (crashL m ks) w' := by
  obtain ⟨mv, md, pv, vs, sl, h⟩ := h
  exact crash_any h hok ks q cap hkl hl
theorem drot_any (h : Dsk w S b m) (hok : DkOk 300 m) (p : S8) (at_ : Int) (mask : UInt8) : Calls Tryd.prog 12 #[.pointer (some ⟨b, 0, none⟩), .string (mkS p), .int .i64 at_, .int .u8 (mask.toNat : Int)] w fun e w' => e = .returned (.int .i64 ((rotL m p at_ mask).2 : Int)) ∧ Nxt S b w (rotL m p at_ mask).1 w' := by
  obtain ⟨mv, md, pv, vs, sl, h⟩ := h
  exact rot_any h hok p at_ mask
theorem dread_any (h : Dsk w S b m) (hok : DkOk 300 m) (p : S8) : Calls Tryd.prog 19 #[.pointer (some ⟨b, 0, none⟩), .string (mkS p)] w fun e w' => ∃ v, e = .returned (.tuple #[v, .int .i64 (readN m p)]) ∧ w'.ownsRow w.heap.size 5 1 v ((readL m p).getD []).length (bytC ((readL m p).getD [])) ∧ Below w.heap.size w w' := by
  obtain ⟨mv, md, pv, vs, sl, h⟩ := h
  exact read_any h hok p
theorem dstat_any (h : Dsk w S b m) (p : S8) : Calls Tryd.prog 18 #[.pointer (some ⟨b, 0, none⟩), .string (mkS p)] w fun e w' => e = .returned (stampV (fileL m p)) ∧ Below w.heap.size w w' := by
  obtain ⟨mv, md, pv, vs, sl, h⟩ := h
  exact stat_any h p
theorem dpaths_any (h : Dsk w S b m) (hok : DkOk 300 m) : Calls Tryd.prog 13 #[.pointer (some ⟨b, 0, none⟩)] w fun e w' => ∃ (v : Value) (ls : List S8), e = .returned v ∧ ls.Perm (m.seen.map Fl.p) ∧ ls.Pairwise (fun x y => decide (y ≤ x) = false) ∧ w'.ownsRow w.heap.size 9 1 v ls.length (ls.map fun s => .string (mkS s)) ∧ Below w.heap.size w w' := by
  obtain ⟨mv, md, pv, vs, sl, h⟩ := h
  exact paths_any h hok
theorem dused_any (h : Dsk w S b m) (hok : DkOk 300 m) : Calls Tryd.prog 14 #[.pointer (some ⟨b, 0, none⟩)] w fun e w' => e = .returned (.int .i64 (usedL m : Int)) ∧ Below w.heap.size w w' := by
  obtain ⟨mv, md, pv, vs, sl, h⟩ := h
  exact used_any h hok
theorem droom_any (h : Dsk w S b m) : Calls Tryd.prog 15 #[.pointer (some ⟨b, 0, none⟩)] w fun e w' => e = .returned (.int .i64 m.room) ∧ w = w' := by
  obtain ⟨mv, md, pv, vs, sl, h⟩ := h
  exact room_any h
theorem Dsk.sizes (h : Dsk w S b m) : SzOk m := by
  obtain ⟨mv, md, pv, vs, sl, h⟩ := h
  exact h.sz
theorem Dsk.once (h : Dsk w S b m) : OnceF m.seen := by
  obtain ⟨mv, md, pv, vs, sl, h⟩ := h
  exact h.vis.once
end
/-- Bytes as a string. -/
theorem conv8 (w : World) (p : Option Addr) (l : S8) (n cap : Nat) (h : LsC w p (bytC l)) (hl : l.length = n) (hp : p = none → cap = 0) :
    (convert 28 9 (.slice p n cap)).run Tryd.prog w = .ok (.string (mkS l)) w := by
  subst hl
  cases p with
  | none =>
    have : l = [] := by
      cases l with
      | nil => rfl
      | cons x r => obtain ⟨c, o, e, _⟩ := h 0 (by rw [bytC_len]; simp); cases e
    subst this
    show (convert 28 9 (.slice none 0 cap)).run Tryd.prog w = _
    rw [run_convert_bytes_string (P := Tryd.prog) w 28 9 5 none 0 cap elB.und (by kernel_rfl) (by kernel_rfl), ← mkS_lit []]
    obtain rfl := hp rfl
    rfl
  | some a =>
    have := run_convert_bytes_back (P := Tryd.prog) w 28 9 5 a cap l elB.und (by kernel_rfl) (by kernel_rfl) (fun j hj => by
      obtain ⟨c', o', e, hc⟩ := h j (by rw [bytC_len]; exact hj)
      injection e with e
      subst e
      rw [Addr.add_mid, hc, bytC_get l j hj, chr_eq hj])
    rw [mkS_lit] at this
    exact this
theorem own_conv {w : World} {base n : Nat} {v : Value} {l : S8} (h : w.ownsRow base 5 1 v n (bytC l)) (hn : n = l.length) : ∃ q c, v = .slice q n c ∧ (convert 28 9 (.slice q n c)).run Tryd.prog w = .ok (.string (mkS l)) w := by
  obtain ⟨q, c, e, h1, h2, _⟩ := own_shape h
  exact ⟨q, c, e, conv8 w q l n c h1 hn.symm h2⟩
theorem xyC (w : World) : (Instr.buildSlice 28 2 #[(0, .int .u8 120), (1, .int .u8 121)]).run Tryd.prog w = .ok (.slice (some ⟨w.heap.size, 0, none⟩) 2 2) (w.alloc (.cells #[.int .u8 120, .int .u8 121] 5)) := by kernel_rfl
theorem xyK (w : World) : (convert 28 28 (.slice (some ⟨w.heap.size, 0, none⟩) 2 2)).run Tryd.prog (w.alloc (.cells #[.int .u8 120, .int .u8 121] 5)) = .ok (.slice (some ⟨w.heap.size, 0, none⟩) 2 2) (w.alloc (.cells #[.int .u8 120, .int .u8 121] 5 (2, 3))) :=
  Lib.run_convert_bytes_const (P := Tryd.prog) w 28 5 #[.int .u8 120, .int .u8 121] 2 2 elB.und (by kernel_rfl)
def dk9 : Dk := ⟨9, 0, [], [], [], []⟩
def dkA : Dk := ⟨9, 1, [[120, 121]], [⟨[97], 0, 2, 3, 1⟩], [], [⟨1, [], ⟨[97], 0, 2, 3, 1⟩⟩]⟩
def dkC : Dk := ⟨9, 1, [[120, 121]], [], [], []⟩
theorem aw_clamp : clampL 9 = 9 := by decide
theorem aw_good : goodL [97] = true := by decide +kernel
theorem aw_write : writeL dk9 [97] [120, 121] 3 = (dkA, 0) := by
  have h1 : writeL dk9 [97] [120, 121] 3 = if !goodL [97] then (dk9, 7) else (dkA, 0) := by rfl
  rw [h1, aw_good]
  rfl
theorem aw_read : readL dkA [97] = some [120, 121] := by rfl
theorem aw_crash : crashL dkA [] = dkC := by rfl
theorem aw_readC : readL dkC [97] = none := by rfl
theorem dk9_ok : DkOk 0 dk9 := DkOk.zero 9
theorem dkA_ok : DkOk 1 dkA := by
  have := dk9_ok.write [97] [120, 121] 3
  rw [aw_write] at this
  exact this
theorem dkC_ok : DkOk 1 dkC := by
  have := dkA_ok.crash []
  rw [aw_crash] at this
  exact this
end Go.Proofs.YtjglgohchhdkkaaDoor
