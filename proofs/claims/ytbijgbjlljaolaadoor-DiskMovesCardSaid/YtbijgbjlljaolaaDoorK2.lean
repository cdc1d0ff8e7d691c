/- Merged texts: Dkp8, Dkv8, LibP7, Cla8, Put8, Cls8, Bytes, OwnK8, Lsg8. -/
import Derived.Test.YtbijgbjlljaolaaDoorK1
import Derived.Laws.Externs
import Derived.Deep.QuietTactic
import Derived.OwnWalk
import Derived.Lib.Hide
import Derived.Lib.OthersKept
import Derived.Test.YtbijgbjlljaolaaDoorRows
import Derived.RegionTactic
import Derived.Maps.AppendAt
import Derived.RangeFuncRecord
set_option linter.unusedSimpArgs false
set_option linter.unusedVariables false
/- What holds of every plain disk after so many calls. -/
namespace Go.Proofs.YtbijgbjlljaolaaDoor
open Go Go.RowKit

/-- No path of the list is long. -/
def ShortF (l : List Fl) : Prop := ∀ j, (l.getD j fl0).p.length ≤ 100
/-- A change as the disk makes it. -/
structure ChOk (c : Ch) : Prop where
  kind : c.kind = 1 ∨ c.kind = 2 ∨ c.kind = 3
  path : c.file.p.length ≤ 100
  src : c.src.length < 100000
theorem findL_lt {l : List Fl} {p : S8} {i : Nat} (h : findL l p = some i) : i < l.length := by
  unfold findL at h
  rw [List.findIdx?_eq_some_iff_getElem] at h
  exact h.1
theorem goodL_len {l : S8} (h : goodL l = true) : l.length ≤ 100 := by
  unfold goodL at h
  simp only [Bool.and_eq_true, decide_eq_true_eq] at h
  omega
/-- Each file's bytes have a number that there is. -/
def InB (m : Dk) : Prop := ∀ i, i < m.seen.length → (m.seen.getD i fl0).body < m.bodies.length
def usedTo (m : Dk) (k : Nat) : Nat := ((m.seen.take k).map fun f => (bodyL m f).length).sum
theorem usedTo_succ (m : Dk) (k : Nat) (hk : k < m.seen.length) : usedTo m (k + 1) = usedTo m k + (bodyL m (m.seen.getD k fl0)).length := by
  unfold usedTo
  rw [List.take_succ_eq_append_getElem hk, List.map_append, List.sum_append]
  have e : m.seen.getD k fl0 = m.seen[k] := by rw [List.getD_eq_getElem?_getD, List.getElem?_eq_getElem hk]; rfl
  rw [e]
  simp
theorem usedTo_all (m : Dk) : usedTo m m.seen.length = usedL m := by unfold usedTo usedL; rw [List.take_length]
/-- No body is long. -/
def ShortB (m : Dk) : Prop := ∀ i, (m.bodies.getD i []).length ≤ 300000
theorem usedTo_le (m : Dk) (hB : ShortB m) (k : Nat) : usedTo m k ≤ k * 300000 := by
  induction k with
  | zero => simp [usedTo]
  | succ k ih =>
    by_cases hk : k < m.seen.length
    · rw [usedTo_succ m k hk]
      have : (bodyL m (m.seen.getD k fl0)).length ≤ 300000 := hB _
      omega
    · have : usedTo m (k + 1) = usedTo m k := by unfold usedTo; rw [List.take_of_length_le (by omega), List.take_of_length_le (by omega)]
      omega
theorem shortF_iff {l : List Fl} : ShortF l ↔ ∀ f ∈ l, f.p.length ≤ 100 := by
  constructor
  · intro h f hf
    obtain ⟨j, hj, rfl⟩ := List.getElem_of_mem hf
    have := h j
    rw [List.getD_eq_getElem?_getD, List.getElem?_eq_getElem hj] at this
    exact this
  · intro h j
    by_cases hj : j < l.length
    · rw [List.getD_eq_getElem?_getD, List.getElem?_eq_getElem hj]
      exact h _ (List.getElem_mem hj)
    · rw [List.getD_eq_getElem?_getD, List.getElem?_eq_none (by omega)]
      exact Nat.zero_le _
theorem without_len (l : List Fl) (p : S8) (cl : Bool) : (withoutL l p cl).length ≤ l.length := by unfold withoutL; exact List.length_filter_le _ _
theorem doL_len (l : List Fl) (c : Ch) : (doL l c).length ≤ l.length + 1 := by
  unfold doL
  split
  · rw [List.length_append]
    exact Nat.add_le_add_right (without_len _ _ _) 1
  · split
    · omega
    · rw [List.length_append]
      exact Nat.add_le_add_right (Nat.le_trans (without_len _ _ _) (without_len _ _ _)) 1
  · exact Nat.le_trans (without_len _ _ _) (Nat.le_succ _)
theorem doL_short {l : List Fl} {c : Ch} (hc : ChOk c) (h : ShortF l) : ShortF (doL l c) := by
  rw [shortF_iff] at h ⊢
  have hw : ∀ {l : List Fl} {p cl f}, f ∈ withoutL l p cl → f ∈ l := fun hf => by unfold withoutL at hf; exact (List.mem_filter.1 hf).1
  intro f hf
  unfold doL at hf
  split at hf
  · rcases List.mem_append.1 hf with hf | hf
    · exact h f (hw hf)
    · simp at hf
      subst hf
      exact hc.path
  · split at hf
    · exact h f hf
    · rcases List.mem_append.1 hf with hf | hf
      · exact h f (hw (hw hf))
      · simp at hf
        subst hf
        exact hc.path
  · exact h f (hw hf)
theorem keptL_step (S : List Fl) (ws : List Ch) (ks : List Bool) (k : Nat) (hk : k < ws.length) :
    keptL S (ws.drop k) (ks.drop k) = keptL (if ks.getD k false then doL S ws[k] else S) (ws.drop (k + 1)) (ks.drop (k + 1)) := by
  rw [List.drop_eq_getElem_cons hk]
  have e : (ks.drop k).headD false = ks.getD k false := by rw [List.headD_eq_head?_getD, List.head?_drop, List.getD_eq_getElem?_getD]
  have e2 : (ks.drop k).tail = ks.drop (k + 1) := by rw [List.tail_drop]
  show keptL (if (ks.drop k).headD false then doL S ws[k] else S) (ws.drop (k + 1)) (ks.drop k).tail = _
  rw [e, e2]
theorem flip_len (b : S8) (a : Nat) (mask : UInt8) : (flipL b a mask).length = b.length := by unfold flipL; rw [List.length_set]
theorem leftL_none {m : Dk} {p : S8} (hf : findL m.seen p = none) : leftL m p = m.room - (usedL m : Int) := by unfold leftL; rw [hf]; simp
theorem leftL_some {m : Dk} {p : S8} {i : Nat} (hf : findL m.seen p = some i) : leftL m p = m.room - (usedL m : Int) + ((bodyL m (m.seen.getD i fl0)).length : Int) := by unfold leftL; rw [hf]
theorem usedL_le {m : Dk} (hB : ShortB m) {n : Nat} (hn : m.seen.length = n) : usedL m ≤ n * 300000 := by
  have := usedTo_le m hB n
  rwa [← hn, usedTo_all, hn] at this
/-- A disk after at most n calls. -/
structure DkOk (n : Nat) (m : Dk) : Prop where
  seen : m.seen.length ≤ n
  both : m.safe.length + m.waits.length ≤ n
  bod : m.bodies.length ≤ n
  cnt0 : 0 ≤ m.count
  cnt1 : m.count ≤ n
  shS : ShortF m.seen
  shF : ShortF m.safe
  chk : ∀ c ∈ m.waits, ChOk c
  inS : ∀ f ∈ m.seen, f.body < m.bodies.length
  inF : ∀ f ∈ m.safe, f.body < m.bodies.length
  inW : ∀ c ∈ m.waits, c.kind = 1 → c.file.body < m.bodies.length
  bs : ∀ b ∈ m.bodies, b.length ≤ 262144
theorem without_mem {l : List Fl} {p : S8} {cl : Bool} {f : Fl} (hf : f ∈ withoutL l p cl) : f ∈ l := by unfold withoutL at hf; exact (List.mem_filter.1 hf).1
theorem doL_body {l : List Fl} {c : Ch} {f : Fl} (hf : f ∈ doL l c) : (∃ g ∈ l, g.body = f.body) ∨ (c.kind = 1 ∧ f.body = c.file.body) := by
  unfold doL at hf
  split at hf
  · rename_i hk
    rcases List.mem_append.1 hf with hf | hf
    · exact .inl ⟨f, without_mem hf, rfl⟩
    · simp at hf
      subst hf
      exact .inr ⟨hk, rfl⟩
  · split at hf
    · exact .inl ⟨f, hf, rfl⟩
    · rename_i i hi
      rcases List.mem_append.1 hf with hf | hf
      · exact .inl ⟨f, without_mem (without_mem hf), rfl⟩
      · simp at hf
        have hil := findL_lt hi
        refine .inl ⟨l[i], List.getElem_mem hil, ?_⟩
        rw [hf, List.getElem?_eq_getElem hil]
        rfl
  · exact .inl ⟨f, without_mem hf, rfl⟩
theorem keptL_len (ws : List Ch) : ∀ (l : List Fl) (ks : List Bool), (keptL l ws ks).length ≤ l.length + ws.length := by
  induction ws with
  | nil => intro l ks; exact Nat.le_refl _
  | cons c r ih =>
    intro l ks
    show (keptL (if ks.headD false then doL l c else l) r ks.tail).length ≤ _
    refine Nat.le_trans (ih _ _) ?_
    have := doL_len l c
    rw [List.length_cons]
    split <;> omega
theorem keptL_short (ws : List Ch) : ∀ (l : List Fl) (ks : List Bool), (∀ c ∈ ws, ChOk c) → ShortF l → ShortF (keptL l ws ks) := by
  induction ws with
  | nil => intro l ks _ h; exact h
  | cons c r ih =>
    intro l ks hc h
    show ShortF (keptL (if ks.headD false then doL l c else l) r ks.tail)
    refine ih _ _ (fun x hx => hc x (List.mem_cons_of_mem _ hx)) ?_
    split
    · exact doL_short (hc c List.mem_cons_self) h
    · exact h
theorem keptL_body (ws : List Ch) : ∀ (l : List Fl) (ks : List Bool) (f : Fl), f ∈ keptL l ws ks → (∃ g ∈ l, g.body = f.body) ∨ ∃ c ∈ ws, c.kind = 1 ∧ f.body = c.file.body := by
  induction ws with
  | nil => intro l ks f hf; exact .inl ⟨f, hf, rfl⟩
  | cons c r ih =>
    intro l ks f hf
    replace hf : f ∈ keptL (if ks.headD false then doL l c else l) r ks.tail := hf
    rcases ih _ _ f hf with ⟨g, hg, e⟩ | ⟨d, hd, e⟩
    · split at hg
      · rcases doL_body hg with ⟨g2, hg2, e2⟩ | ⟨hk, e2⟩
        · exact .inl ⟨g2, hg2, e2.trans e⟩
        · exact .inr ⟨c, List.mem_cons_self, hk, by rw [← e, e2]⟩
      · exact .inl ⟨g, hg, e⟩
    · exact .inr ⟨d, List.mem_cons_of_mem _ hd, e⟩
section
variable {n : Nat} {m : Dk}
theorem DkOk.zero (room : Int) : DkOk 0 ⟨room, 0, [], [], [], []⟩ :=
  ⟨Nat.le_refl _, Nat.le_refl _, Nat.le_refl _, Int.le_refl _, Int.le_refl _, fun _ => Nat.zero_le _, fun _ => Nat.zero_le _, fun c hc => absurd hc (by simp), fun c hc => absurd hc (by simp), fun c hc => absurd hc (by simp), fun c hc => absurd hc (by simp), fun c hc => absurd hc (by simp)⟩
theorem DkOk.more (h : DkOk n m) : DkOk (n + 1) m :=
  ⟨by have := h.seen; omega, by have := h.both; omega, by have := h.bod; omega, h.cnt0, by have := h.cnt1; push_cast; omega, h.shS, h.shF, h.chk, h.inS, h.inF, h.inW, h.bs⟩
theorem DkOk.mono (h : DkOk n m) {k : Nat} (hk : n ≤ k) : DkOk k m :=
  ⟨Nat.le_trans h.seen hk, Nat.le_trans h.both hk, Nat.le_trans h.bod hk, h.cnt0, Int.le_trans h.cnt1 (by exact_mod_cast hk), h.shS, h.shF, h.chk, h.inS, h.inF, h.inW, h.bs⟩
theorem DkOk.inB (h : DkOk n m) : InB m := fun i hi => by
  have e : m.seen.getD i fl0 = m.seen[i] := by rw [List.getD_eq_getElem?_getD, List.getElem?_eq_getElem hi]; rfl
  rw [e]
  exact h.inS _ (List.getElem_mem hi)
theorem DkOk.shortB (h : DkOk n m) : ShortB m := fun i => by
  by_cases hi : i < m.bodies.length
  · rw [List.getD_eq_getElem?_getD, List.getElem?_eq_getElem hi]
    exact Nat.le_trans (h.bs _ (List.getElem_mem hi)) (by decide)
  · rw [List.getD_eq_getElem?_getD, List.getElem?_eq_none (by omega)]
    exact Nat.zero_le _
theorem DkOk.change (h : DkOk n m) (c : Ch) (hc : ChOk c) (hb : c.kind = 1 → c.file.body < m.bodies.length) : DkOk (n + 1) (changeL m c) := by
  refine ⟨Nat.le_trans (doL_len _ _) (Nat.add_le_add_right h.seen 1), ?_, Nat.le_trans h.bod (Nat.le_succ _), h.cnt0, by have := h.cnt1; show m.count ≤ _; push_cast; omega, doL_short hc h.shS, h.shF, ?_, ?_, h.inF, ?_, h.bs⟩
  · show m.safe.length + (m.waits ++ [c]).length ≤ _
    have := h.both
    rw [List.length_append]
    simp
    omega
  · intro x hx
    rcases List.mem_append.1 hx with hx | hx
    · exact h.chk x hx
    · simp at hx
      subst hx
      exact hc
  · intro f hf
    rcases doL_body hf with ⟨g, hg, e⟩ | ⟨hk, e⟩
    · rw [← e]; exact h.inS g hg
    · rw [e]; exact hb hk
  · intro x hx
    rcases List.mem_append.1 hx with hx | hx
    · exact h.inW x hx
    · simp at hx
      subst hx
      exact hb
theorem DkOk.remove (h : DkOk n m) (p : S8) (hp : p.length < 100000) : DkOk (n + 1) (removeL m p).1 := by
  unfold removeL
  split
  · exact h.more
  · exact h.change _ ⟨.inr (.inr rfl), Nat.zero_le _, hp⟩ (fun e => by exact absurd (show (3 : Nat) = 1 from e) (by decide))
theorem DkOk.rename (h : DkOk n m) (p q : S8) (hp : p.length < 100000) : DkOk (n + 1) (renameL m p q).1 := by
  unfold renameL
  split
  · exact h.more
  · split
    · exact h.more
    · rename_i hg
      split
      · exact h.more
      · exact h.change _ ⟨.inr (.inl rfl), goodL_len (by simpa using hg), hp⟩ (fun e => by exact absurd (show (2 : Nat) = 1 from e) (by decide))
theorem DkOk.sync (h : DkOk n m) : DkOk n (syncL m) :=
  ⟨h.seen, by show m.seen.length + 0 ≤ n; exact h.seen, h.bod, h.cnt0, h.cnt1, h.shS, h.shS, fun c hc => absurd hc (by simp [syncL]), h.inS, h.inS, fun c hc => absurd hc (by simp [syncL]), h.bs⟩
theorem DkOk.crash (h : DkOk n m) (ks : List Bool) : DkOk n (crashL m ks) := by
  have hl := Nat.le_trans (keptL_len m.waits m.safe ks) h.both
  have hs := keptL_short m.waits m.safe ks h.chk h.shF
  have hb : ∀ f ∈ keptL m.safe m.waits ks, f.body < m.bodies.length := fun f hf => by
    rcases keptL_body m.waits m.safe ks f hf with ⟨g, hg, e⟩ | ⟨c, hc, hk, e⟩
    · rw [← e]; exact h.inF g hg
    · rw [e]; exact h.inW c hc hk
  exact ⟨hl, hl, h.bod, h.cnt0, h.cnt1, hs, hs, fun c hc => absurd hc (by simp [crashL]), hb, hb, fun c hc => absurd hc (by simp [crashL]), h.bs⟩
theorem DkOk.rot (h : DkOk n m) (p : S8) (at_ : Int) (mask : UInt8) : DkOk n (rotL m p at_ mask).1 := by
  unfold rotL
  split
  · exact h
  · dsimp only
    split
    · exact h
    · rename_i i hi _
      refine ⟨h.seen, h.both, by rw [List.length_set]; exact h.bod, h.cnt0, h.cnt1, h.shS, h.shF, h.chk, fun f hf => by rw [List.length_set]; exact h.inS f hf, fun f hf => by rw [List.length_set]; exact h.inF f hf, fun c hc hk => by rw [List.length_set]; exact h.inW c hc hk, fun b hb => ?_⟩
      rcases List.mem_or_eq_of_mem_set hb with hb | hb
      · exact h.bs b hb
      · rw [hb, flip_len]
        unfold bodyL
        by_cases hx : (m.seen.getD i fl0).body < m.bodies.length
        · rw [List.getD_eq_getElem?_getD, List.getElem?_eq_getElem hx]
          exact h.bs _ (List.getElem_mem hx)
        · rw [List.getD_eq_getElem?_getD, List.getElem?_eq_none (by omega)]
          exact Nat.zero_le _
theorem DkOk.write (h : DkOk n m) (p b : S8) (time : Int) : DkOk (n + 1) (writeL m p b time).1 := by
  unfold writeL
  split
  · exact h.more
  · rename_i hg
    split
    · exact h.more
    · rename_i hl
      split
      · exact h.more
      · split
        · exact h.more
        · split
          · exact h.more
          · have hg2 : goodL p = true := by simpa using hg
            have h2 : ∀ k, k < m.bodies.length → k < (m.bodies ++ [b]).length := fun k hk => by rw [List.length_append]; omega
            refine ⟨(show (doL m.seen ⟨1, [], ⟨p, m.bodies.length, b.length, time, m.count + 1⟩⟩).length ≤ n + 1 from Nat.le_trans (doL_len _ _) (Nat.add_le_add_right h.seen 1)), ?_, ?_, ?_, ?_, (show ShortF (doL m.seen ⟨1, [], ⟨p, m.bodies.length, b.length, time, m.count + 1⟩⟩) from doL_short ⟨.inl rfl, goodL_len hg2, Nat.zero_lt_succ _⟩ h.shS), h.shF, ?_, ?_, fun f hf => h2 _ (h.inF f hf), ?_, ?_⟩
            · show m.safe.length + (m.waits ++ [_]).length ≤ _
              have := h.both
              rw [List.length_append]
              simp
              omega
            · show (m.bodies ++ [b]).length ≤ _
              have := h.bod
              rw [List.length_append]
              simp
              omega
            · show 0 ≤ m.count + 1
              have := h.cnt0
              omega
            · show m.count + 1 ≤ _
              have := h.cnt1
              push_cast
              omega
            · intro x hx
              rcases List.mem_append.1 hx with hx | hx
              · exact h.chk x hx
              · simp at hx
                subst hx
                exact ⟨.inl rfl, goodL_len hg2, by exact Nat.zero_lt_succ _⟩
            · intro f hf
              replace hf : f ∈ doL m.seen ⟨1, [], ⟨p, m.bodies.length, b.length, time, m.count + 1⟩⟩ := hf
              rcases doL_body hf with ⟨g, hg, e⟩ | ⟨hk, e⟩
              · rw [← e]; exact h2 _ (h.inS g hg)
              · rw [e]
                show m.bodies.length < (m.bodies ++ [b]).length
                rw [List.length_append]
                simp
            · intro x hx hk
              rcases List.mem_append.1 hx with hx | hx
              · exact h2 _ (h.inW x hx hk)
              · simp at hx
                subst hx
                show m.bodies.length < (m.bodies ++ [b]).length
                rw [List.length_append]
                simp
            · intro x hx
              rcases List.mem_append.1 hx with hx | hx
              · exact h.bs x hx
              · simp at hx
                subst hx
                omega
end
end Go.Proofs.YtbijgbjlljaolaaDoor
/- Files as the entries of a map. -/
namespace Go.Proofs.YtbijgbjlljaolaaDoor
open Go Go.RowKit

/-- Where bytes lie. -/
structure Hn where
  q : Option Addr
  n : Nat
  c : Nat
/-- A file as a value: its stamp and where its bytes lie. -/
def fileC (sl : Nat → Hn) (f : Fl) : Array Value := #[.int .i64 f.size, .int .i64 f.time, .int .i64 f.chg, .slice (sl f.body).q (sl f.body).n (sl f.body).c]
def fileV (sl : Nat → Hn) (f : Fl) : Value := .agg (fileC sl f)
def entV (sl : Nat → Hn) (f : Fl) : S8 × Value := (f.p, fileV sl f)
section
variable (sl : Nat → Hn) (l : List Fl)
theorem findV_ent (p : S8) : findV (l.map (entV sl)) p = (findL l p).map fun i => fileV sl (l.getD i fl0) := by
  induction l with
  | nil => rfl
  | cons x r ih =>
    have e2 : findL (x :: r) p = if x.p == p then some 0 else (findL r p).map (· + 1) := by
      unfold findL
      rw [List.findIdx?_cons]
    have e1 : findV (entV sl x :: r.map (entV sl)) p = if x.p == p then some (fileV sl x) else findV (r.map (entV sl)) p := by
      unfold findV
      rw [List.find?_cons]
      show Option.map _ (match x.p == p with | true => some (entV sl x) | false => _) = _
      cases x.p == p <;> rfl
    rw [List.map_cons, e1, e2]
    by_cases h : (x.p == p) = true
    · rw [if_pos h, if_pos h]
      rfl
    · rw [if_neg h, if_neg h, ih]
      cases findL r p <;> rfl
theorem delV_ent (p : S8) : delV (l.map (entV sl)) p = (withoutL l p false).map (entV sl) := by
  unfold delV withoutL
  rw [List.filter_map]
  refine congrArg (List.map (entV sl)) (List.filter_congr fun f _ => ?_)
  simp [entV]
theorem putV_ent (p : S8) (f : Fl) (hf : f.p = p) : (putV ((l.map (entV sl)).filter fun x => !clashL x.1 p) p (fileV sl f)).Perm ((withoutL l p true ++ [f]).map (entV sl)) := by
  unfold putV
  have e : delV ((l.map (entV sl)).filter fun x => !clashL x.1 p) p = (withoutL l p true).map (entV sl) := by
    unfold delV withoutL
    rw [List.filter_filter, List.filter_map]
    refine congrArg (List.map (entV sl)) (List.filter_congr fun x _ => ?_)
    simp [entV]
  rw [e, List.map_append, List.map_cons, List.map_nil]
  have : entV sl f = (p, fileV sl f) := by unfold entV; rw [hf]
  rw [this]
  exact (List.perm_append_singleton _ _).symm
end
/-- The paths in a list are each there once. -/
def OnceF (l : List Fl) : Prop := (l.map Fl.p).Nodup
theorem MpB.once {w : World} {b : Nat} {sl : Nat → Hn} {l : List Fl} (h : MpB w b (l.map (entV sl))) : OnceF l := by
  have := h.keys
  rw [List.map_map] at this
  exact this
theorem fileV_eq (sl : Nat → Hn) (f : Fl) (p : S8) : fileV sl { f with p := p } = fileV sl f := rfl
/-- The sum of the sizes. -/
def sizeSum (l : List Fl) : Int := (l.map Fl.size).sum
theorem clashes_any_of (l : List Fl) (p but : S8) : clashesL l p but = (l.any fun f => f.p != but && clashL f.p p) := rfl
end Go.Proofs.YtbijgbjlljaolaaDoor
/- strings.LastIndexByte at "/"; HasPrefix, CutPrefix. -/
namespace Go.Proofs.YtbijgbjlljaolaaDoor
open Go Go.RowKit

set_option maxHeartbeats 1000000 in
theorem prefix_in (s t : S8) (w : World) : Calls Tryd.prog 93 #[.string (mkS s), .string (mkS t)] w fun e w' => e = .returned (.bool (startsL s t)) ∧ w = w' := by
  by_cases h : t.length ≤ s.length
  · have h1 : (t.length : Int) ≤ (s.length : Int) := by omega
    have h2 : decide ((t.length : Int) ≤ (s.length : Int)) = true := decide_eq_true h1
    have HS := Lib.hid (show startsL s t = (s.take t.length == t) from by unfold startsL; rw [decide_eq_true h]; rfl)
    go_enter Tryd.func93, Tryd.ntmps93
    go_wp2
    go_ret
    exact ⟨by rw [HS.out]; rfl, rfl⟩
  · have h1 : ¬ (t.length : Int) ≤ (s.length : Int) := by omega
    have h2 : decide ((t.length : Int) ≤ (s.length : Int)) = false := decide_eq_false h1
    have HS := Lib.hid (show startsL s t = false from by unfold startsL; rw [decide_eq_false h]; rfl)
    go_enter Tryd.func93, Tryd.ntmps93
    go_wp2
    go_ret
    exact ⟨by rw [HS.out]; rfl, rfl⟩
/-- What is behind a beginning, and whether there is that beginning. -/
def behindL (s t : S8) : S8 := if startsL s t then s.drop t.length else s
set_option maxHeartbeats 1000000 in
theorem cutPrefix_in (s t : S8) (w : World) : Calls Tryd.prog 79 #[.string (mkS s), .string (mkS t)] w fun e w' => e = .returned (.tuple #[.string (mkS (behindL s t)), .bool (startsL s t)]) ∧ w = w' := by
  have HC := Lib.hid (prefix_in s t w)
  have hle : startsL s t = true → t.length ≤ s.length := fun h => by unfold startsL at h; rw [Bool.and_eq_true, decide_eq_true_eq] at h; exact h.1
  have HB := Lib.hid (show behindL s t = if startsL s t then s.drop t.length else s from rfl)
  obtain ⟨x, hx⟩ : ∃ x, behindL s t = x := ⟨_, rfl⟩
  rw [hx] at HB ⊢
  clear hx
  generalize startsL s t = b at *
  cases b with
  | true =>
    have hl := hle rfl
    obtain rfl : x = s.drop t.length := by rw [HB.out]; rfl
    have h1 : (t.length : Int) ≤ (s.length : Int) := by omega
    clear hle
    go_enter Tryd.func79, Tryd.ntmps79
    go_wp2_with fail
    refine HC.out.mono ?_
    rintro e w' ⟨rfl, rfl⟩
    go_wp2
    go_ret2
    exact ⟨rfl, rfl⟩
  | false =>
    obtain rfl : x = s := by rw [HB.out]; rfl
    clear hle
    go_enter Tryd.func79, Tryd.ntmps79
    go_wp2_with fail
    refine HC.out.mono ?_
    rintro e w' ⟨rfl, rfl⟩
    go_wp2
    go_ret2
    exact ⟨rfl, rfl⟩
set_option maxHeartbeats 1000000 in
theorem cutPrefix_any (s t : S8) (w : World) : Calls Tryd.prog 63 #[.string (mkS s), .string (mkS t)] w fun e w' => e = .returned (.tuple #[.string (mkS (behindL s t)), .bool (startsL s t)]) ∧ w = w' := by
  have HC := Lib.hid (cutPrefix_in s t w)
  generalize startsL s t = b at *
  generalize behindL s t = x at *
  go_enter Tryd.func63, Tryd.ntmps63
  go_wp2_with fail
  refine HC.out.mono ?_
  rintro e w' ⟨rfl, rfl⟩
  go_wp2
  go_ret2
  exact ⟨rfl, rfl⟩
end Go.Proofs.YtbijgbjlljaolaaDoor
/- In, Clash. -/
namespace Go.Proofs.YtbijgbjlljaolaaDoor
open Go Go.RowKit

theorem starts_parts {s d : S8} (h : startsL s d = true) : s = d ++ s.drop d.length := by
  unfold startsL at h
  rw [Bool.and_eq_true, beq_iff_eq] at h
  conv => lhs; rw [← List.take_append_drop d.length s, h.2]
theorem inL_parts (s d : S8) : inL s d = (startsL s d && (decide (1 < (s.drop d.length).length) && (chr (s.drop d.length) 0 == 47))) := by
  cases h : startsL s d with
  | true =>
    rw [Bool.true_and]
    have e := starts_parts h
    generalize s.drop d.length = t at *
    subst e
    unfold inL
    cases t with
    | nil => rw [decide_eq_false (by simp), decide_eq_false (by simp)]; rfl
    | cons c r =>
      have e1 : (d ++ c :: r).take (d.length + 1) = d ++ [c] := by
        simp [List.take_append, List.take_of_length_le]
      rw [e1]
      have hc : chr (c :: r) 0 = c.toNat := by rw [chr_eq (by simp)]; rfl
      rw [hc]
      have e2 : decide (d.length + 1 < (d ++ c :: r).length) = decide (1 < (c :: r).length) := by
        congr 1
        simp
      rw [e2]
      congr 1
      by_cases h47 : c = 47
      · subst h47; simp
      · have : ¬ c.toNat = 47 := fun e => h47 (UInt8.toNat_inj.1 e)
        rw [beq_eq_false_iff_ne.2 this]
        exact beq_eq_false_iff_ne.2 (fun e => h47 (by simpa using e))
  | false =>
    rw [Bool.false_and]
    unfold inL
    by_cases hl : d.length + 1 < s.length
    · rw [decide_eq_true hl, Bool.true_and]
      refine beq_eq_false_iff_ne.2 fun e => ?_
      have : startsL s d = true := by
        unfold startsL
        rw [decide_eq_true (by omega), Bool.true_and, beq_iff_eq]
        have := congrArg (List.take d.length) e
        rw [List.take_take, List.take_left] at this
        rwa [Nat.min_eq_left (by omega)] at this
      rw [this] at h; cases h
    · rw [decide_eq_false hl]; rfl
set_option maxHeartbeats 1000000 in
theorem lies_any (s d : S8) (w : World) (hs : s.length < 100000) (hd : d.length < 100000) : Calls Tryd.prog 52 #[.string (mkS s), .string (mkS d)] w fun e w' => Gives (.bool (inL s d)) w e w' := by
  have HC := Lib.hid (cutPrefix_any s d w)
  have HP := Lib.hid (inL_parts s d)
  have HB := Lib.hid (show behindL s d = if startsL s d then s.drop d.length else s from rfl)
  have hlen : (s.drop d.length).length ≤ s.length := by rw [List.length_drop]; omega
  generalize behindL s d = x at *
  generalize s.drop d.length = t at *
  generalize inL s d = v at *
  generalize startsL s d = b at *
  cases b with
  | false =>
    obtain rfl : v = false := by rw [HP.out]; rfl
    go_enter Tryd.func52, Tryd.ntmps52
    go_wp2_with fail
    refine HC.out.mono ?_
    rintro e w' ⟨rfl, rfl⟩
    go_wp2
    go_ret
    exact ⟨rfl, Below.refl _ _⟩
  | true =>
    obtain rfl : x = t := by rw [HB.out]; rfl
    by_cases h1 : 1 < x.length
    · have z1 : (1 : Int) < (x.length : Int) := by omega
      have z2 : decide ((1 : Int) < (x.length : Int)) = true := decide_eq_true z1
      have hix : ∀ u, (Instr.index 9 (.string (mkS x)) (.int .i64 0)).run Tryd.prog u = .ok (.int .u8 (chr x 0 : Int)) u := fun u => ix_S x 0 u (by omega)
      have HP2 := Lib.hid (show v = (chr x 0 == 47) from by rw [HP.out, decide_eq_true h1, Bool.true_and, Bool.true_and])
      clear HP
      generalize chr x 0 = c at *
      by_cases h47 : c = 47
      · subst h47
        obtain rfl : v = true := by rw [HP2.out]; rfl
        go_enter Tryd.func52, Tryd.ntmps52
        go_wp2_with fail
        refine HC.out.mono ?_
        rintro e w' ⟨rfl, rfl⟩
        go_wp2
        go_ret
        exact ⟨rfl, Below.refl _ _⟩
      · have hz : ((c : Int) == 47) = false := by simp; omega
        obtain rfl : v = false := by rw [HP2.out]; simpa using h47
        go_enter Tryd.func52, Tryd.ntmps52
        go_wp2_with fail
        refine HC.out.mono ?_
        rintro e w' ⟨rfl, rfl⟩
        go_wp2
        go_ret
        exact ⟨rfl, Below.refl _ _⟩
    · have z1 : ¬ (1 : Int) < (x.length : Int) := by omega
      have z2 : decide ((1 : Int) < (x.length : Int)) = false := decide_eq_false z1
      obtain rfl : v = false := by rw [HP.out, decide_eq_false h1]; rfl
      go_enter Tryd.func52, Tryd.ntmps52
      go_wp2_with fail
      refine HC.out.mono ?_
      rintro e w' ⟨rfl, rfl⟩
      go_wp2
      go_ret
      exact ⟨rfl, Below.refl _ _⟩
set_option maxHeartbeats 1000000 in
theorem clash_any (a b : S8) (w : World) (ha : a.length < 100000) (hb : b.length < 100000) : Calls Tryd.prog 39 #[.string (mkS a), .string (mkS b)] w fun e w' => Gives (.bool (inL a b || inL b a)) w e w' := by
  have H1 := Lib.hid (lies_any a b w ha hb)
  have H2 := Lib.hid (fun u => lies_any b a u hb ha)
  generalize inL a b = x at *
  generalize inL b a = y at *
  cases x with
  | true =>
    go_enter Tryd.func39, Tryd.ntmps39
    go_wp2_with fail
    refine H1.out.mono ?_
    rintro e w1 ⟨rfl, hB⟩
    have HB := Lib.hid hB
    clear hB H1
    go_wp2
    go_ret
    exact ⟨rfl, HB.out⟩
  | false =>
    go_enter Tryd.func39, Tryd.ntmps39
    go_wp2_with fail
    refine H1.out.mono ?_
    rintro e w1 ⟨rfl, hB⟩
    have HB := Lib.hid hB
    clear hB H1
    go_wp2_with fail
    refine (H2.out _).mono ?_
    rintro e w2 ⟨rfl, hB⟩
    have HB2 := Lib.hid (HB.out.trans (hB.mono HB.out.size))
    clear hB H2
    go_wp2
    go_ret
    exact ⟨rfl, HB2.out⟩
end Go.Proofs.YtbijgbjlljaolaaDoor
/- The program's put: what clashes is removed, then the file is laid into the map. -/
namespace Go.Proofs.YtbijgbjlljaolaaDoor
open Go Go.RowKit

theorem mapT : Tryd.prog.underlying 53 = some (.map 9 64) := by kernel_rfl
set_option maxHeartbeats 1000000 in
/-- The closure that says which are to be removed. -/
theorem putC_any (other p : S8) (a t c : Int) (q : Option Addr) (n k : Nat) (bx : Nat) (w : World) (hb : w.cell? ⟨bx, 0, none⟩ = some (.string (mkS p))) (ho : other.length < 100000) (hp : p.length < 100000) :
    Calls Tryd.prog 48 #[.string (mkS other), .agg #[.int .i64 a, .int .i64 t, .int .i64 c, .slice q n k], .pointer (some ⟨bx, 0, none⟩)] w fun e w' => e = .returned (.bool (clashL other p)) ∧ Below w.heap.size w w' := by
  have hbl := World.block_lt_of_cell? w _ hb
  have HC := Lib.hid (fun u => clash_any other p u ho hp)
  have hB := (Below.refl w.heap.size w).alloc (Nat.le_refl _) (.cells #[.int .i64 a, .int .i64 t, .int .i64 c, .slice q n k] 64)
  have HB := Lib.hid hB
  have hb2 := (hB.cell hbl).trans hb
  have HR := Lib.hid (show clashL other p = (inL other p || inL p other) from rfl)
  generalize clashL other p = r at *
  clear hB
  go_enter Tryd.func48, Tryd.ntmps48
  go_wp2_with fail
  refine (HC.out _).mono ?_
  rintro e w2 ⟨rfl, hB2⟩
  have HB2 := Lib.hid (HB.out.trans (hB2.mono HB.out.size))
  clear hB2
  go_wp2
  go_ret
  exact ⟨by rw [HR.out]; rfl, HB2.out⟩
theorem delV_cons {l r : List (S8 × Value)} {k : S8} {v : Value} (hn : (l.map (·.1)).Nodup) (hp : l.Perm ((k, v) :: r)) : (delV l k).Perm r := by
  have h2 := ((hp.map (·.1)).nodup_iff).1 hn
  rw [List.map_cons, List.nodup_cons] at h2
  have h3 := hp.filter (fun x => x.1 != k)
  have h4 : r.filter (fun x => x.1 != k) = r := List.filter_eq_self.2 (fun x hx => by
    rw [bne_iff_ne]
    intro e
    exact h2.1 (by show k ∈ _; rw [← e]; exact List.mem_map.2 ⟨x, hx, rfl⟩))
  rw [List.filter_cons_of_neg (by simp), h4] at h3
  exact h3
theorem below_grown {w w' : World} (h : Below w.heap.size w w') (row : Option Nat) : w.grownBy w' row := ⟨h.os, h.tape, h.output, h.size, fun i hi _ => h.block i hi⟩
set_option maxHeartbeats 4000000 in
/-- maps.DeleteFunc at that closure. -/
theorem delF_any (sl : Nat → Hn) (l : List Fl) (p : S8) (bx mb : Nat) (w : World) (h : MpB w mb (l.map (entV sl))) (hb : w.cell? ⟨bx, 0, none⟩ = some (.string (mkS p))) (hp : p.length < 100000) (hs : ShortF l) (hbm : bx ≠ mb) :
    Calls Tryd.prog 47 #[.map (some mb), .func (.func 48) #[] #[.pointer (some ⟨bx, 0, none⟩)]] w fun e w' => e = .returned (.tuple #[]) ∧ MpB w' mb ((l.map (entV sl)).filter fun x => !clashL x.1 p) ∧ w.grownBy w' (some mb) := by
  have hbl := World.block_lt_of_cell? w _ hb
  have hml := h.lt
  have H := Lib.hid h
  have HBX := Lib.hid hb
  have HS := Lib.hid hs
  clear h hb
  go_enter Tryd.func47, Tryd.ntmps47
  go_wp2_with (first | (at_range; refine wpl_range8 _ rfl _ rfl mapT rfl H.out ?_; intro w0 hR0 hB0 hz0) | go_in)
  go_loopw [8] (fun _ wr => ∃ done todo : List (S8 × Value), (l.map (entV sl)).Perm (done ++ todo) ∧ RngB wr mb w.heap.size ((done.filter fun x => !clashL x.1 p) ++ todo) todo ∧ w.grownBy wr (some mb)) (fun _ wr => wr.rangeLeft mb w.heap.size)
  case atStart => exact ⟨[], l.map (entV sl), by simp, hR0, ⟨hB0.os, hB0.tape, hB0.output, hB0.size, fun k hk _ => hB0.block k hk⟩⟩
  case round =>
    obtain ⟨done, todo, hperm, hR, hG⟩ := hrel
    have HPM := Lib.hid hperm
    have HG := Lib.hid hG
    clear hperm hG
    go_wp2_with (first | (at_next; refine wpl_next8 _ rfl _ rfl rfl hR ?_ ?_) | go_in)
    · intro htodo
      subst htodo
      go_wp2
      go_end0
      refine ⟨rfl, ?_, HG.out⟩
      have := hR.map
      rw [List.append_nil] at this
      refine this.of_perm ?_
      have hp2 := HPM.out
      rw [List.append_nil] at hp2
      exact (hp2.filter _).symm
    · intro k v todo' w1 hp1 hm1 hR1 hen hg1 hz1
      have hkv : (k, v) ∈ l.map (entV sl) := HPM.out.mem_iff.2 (List.mem_append_right _ (hp1.mem_iff.2 List.mem_cons_self))
      obtain ⟨f, hf, hfe⟩ := List.mem_map.1 hkv
      unfold entV at hfe
      injection hfe with hfk hfv
      have hks : k.length < 100000 := by
        obtain ⟨j, hj, rfl⟩ := List.getElem_of_mem hf
        have := HS.out j
        rw [List.getD_eq_getElem?_getD, List.getElem?_eq_getElem hj] at this
        rw [← hfk]
        simp at this
        omega
      have hG1 : w.grownBy w1 (some mb) := HG.out.andThen hg1 (fun j hj => by cases hj; exact .inl (Nat.le_refl _))
      have HG1 := Lib.hid hG1
      have hbx1 : w1.cell? ⟨bx, 0, none⟩ = some (.string (mkS p)) := by
        rw [World.cell?_of_block (w := w) (hG1.block bx hbl (by simpa using hbm))]
        exact HBX.out
      have hbl1 : bx < w1.heap.size := Nat.lt_of_lt_of_le hbl hG1.size
      have hB1 := (Below.refl w1.heap.size w1).alloc (Nat.le_refl _) (.cells (fileC sl f) 64)
      have hbx2 := (hB1.cell hbl1).trans hbx1
      have HC := Lib.hid (putC_any k p f.size f.time f.chg (sl f.body).q (sl f.body).n (sl f.body).c bx (w1.alloc (.cells (fileC sl f) 64)) hbx2 hks hp)
      have HR1 := Lib.hid (hR1.of_below hB1)
      have HB1 := Lib.hid hB1
      subst hfv
      have HM := Lib.hid hm1
      have HP1 := Lib.hid hp1
      have HRL := Lib.hid hR.left
      have HNW := Lib.hid (Nat.le_trans (Nat.le_of_eq rfl) (Nat.lt_of_lt_of_le hR.lt (Nat.le_of_eq hz1.symm)))
      have hkl : ∀ x ∈ todo', x.1 ≠ k := by
        have hnd := hR1.map.keys
        intro x hx e
        have hsub : ((k, fileV sl f) :: todo').Sublist ((k, fileV sl f) :: todo') := List.Sublist.refl _
        have hnd2 : ((todo).map (·.1)).Nodup := by
          rw [List.map_append] at hnd
          exact (List.nodup_append.1 hnd).2.1
        have hnd3 := ((hp1.map (·.1)).nodup_iff).1 hnd2
        rw [List.map_cons, List.nodup_cons] at hnd3
        exact hnd3.1 (by show k ∈ _; rw [← e]; exact List.mem_map.2 ⟨x, hx, rfl⟩)
      have HKL := Lib.hid hkl
      clear hB1 hg1 hR hR1 hG1 hbx1 hbx2 hkv hm1 hp1 hz1 hkl
      unfold fileV fileC at *
      go_wp2_with fail
      refine HC.out.mono ?_
      rintro e w2 ⟨rfl, hB2⟩
      have HR2 := Lib.hid (HR1.out.of_below hB2)
      have hgrow : w.grownBy w2 (some mb) := HG1.out.andThen (show w1.grownBy w2 none from ⟨hB2.os.trans HB1.out.os, hB2.tape.trans HB1.out.tape, hB2.output.trans HB1.out.output, Nat.le_trans HB1.out.size hB2.size, fun i hi _ => (hB2.block i (Nat.lt_of_lt_of_le hi HB1.out.size)).trans (HB1.out.block i hi)⟩) (fun j hj => by cases hj)
      have HG2 := Lib.hid hgrow
      clear hgrow hB2 hen
      cases hc : clashL k p with
      | true =>
        have HCL := Lib.hid hc
        clear hc
        go_wp2_with (first | (refine wpl_drop8 _ rfl _ _ rfl mapT strT rfl HR2.out k rfl HKL.out ?_; intro w3 hR3 hg3 hz3; simp only [Act.put]) | go_in)
        go_roundw
        case rel =>
          refine ⟨(k, fileV sl f) :: done, todo', ?_, ?_, HG2.out.andThen hg3 (fun j hj => .inr hj)⟩
          · exact HPM.out.trans (((HP1.out.append_left done).trans List.perm_middle))
          · refine hR3.of_perm ?_
            rw [List.filter_cons_of_neg (by simpa using HCL.out)]
            exact delV_cons HR2.out.map.keys ((HP1.out.append_left _).trans List.perm_middle)
        case measure => rw [hR3.left, HRL.out, HP1.out.length_eq]; simp
      | false =>
        have HCL := Lib.hid hc
        clear hc
        go_wp2
        go_roundw
        case rel =>
          refine ⟨(k, fileV sl f) :: done, todo', ?_, ?_, HG2.out⟩
          · exact HPM.out.trans (((HP1.out.append_left done).trans List.perm_middle))
          · refine HR2.out.of_perm ?_
            rw [List.filter_cons_of_pos (by simpa using HCL.out)]
            exact ((HP1.out.append_left _).trans List.perm_middle)
        case measure => rw [HR2.out.left, HRL.out, HP1.out.length_eq]; simp
theorem box4_cell (w : World) (T : TypeId) (a b c d : Value) (j : Nat) : (w.alloc (.cells #[a, b, c, d] T)).cell? ⟨w.heap.size, j, none⟩ = [a, b, c, d][j]? := by
  unfold World.cell?
  rw [World.alloc_heap_new]
  simp
set_option maxHeartbeats 4000000 in
/-- put: what clashes is removed; the file is laid. -/
theorem put_any (sl : Nat → Hn) (l : List Fl) (p : S8) (f : Fl) (hf : f.p = p) (mb : Nat) (w : World) (h : MpB w mb (l.map (entV sl))) (hp : p.length < 100000) (hs : ShortF l) :
    Calls Tryd.prog 36 #[.map (some mb), .string (mkS p), fileV sl f] w fun e w' => e = .returned (.tuple #[]) ∧ MpB w' mb ((withoutL l p true ++ [f]).map (entV sl)) ∧ w.grownBy w' (some mb) := by
  have hml := h.lt
  have HPF := Lib.hid (putV_ent sl l p f hf)
  have hB0 := ((Below.refl w.heap.size w).alloc (Nat.le_refl _) (.cells #[.string (mkS p)] 9))
  have hB1 := hB0.alloc hB0.size (.cells (fileC sl f) 64)
  have hc0 : ((w.alloc (.cells #[.string (mkS p)] 9)).alloc (.cells (fileC sl f) 64)).cell? ⟨w.heap.size, 0, none⟩ = some (.string (mkS p)) := by
    rw [World.cell?_of_block (w := w.alloc (.cells #[.string (mkS p)] 9)) (((Below.refl _ (w.alloc (.cells #[.string (mkS p)] 9))).alloc (Nat.le_refl _) (.cells (fileC sl f) 64)).block w.heap.size (by rw [World.size_alloc]; omega))]
    exact World.cell?_alloc_new _ _ _ _
  have HD := Lib.hid (delF_any sl l p w.heap.size mb _ (h.of_below hB1) hc0 hp hs (by omega))
  have hcf : ∀ j, ((w.alloc (.cells #[.string (mkS p)] 9)).alloc (.cells (fileC sl f) 64)).cell? ⟨w.heap.size + 1, j, none⟩ = (fileC sl f).toList[j]? := fun j => by
    have := box4_cell (w.alloc (.cells #[.string (mkS p)] 9)) 64 (.int .i64 f.size) (.int .i64 f.time) (.int .i64 f.chg) (.slice (sl f.body).q (sl f.body).n (sl f.body).c) j
    rw [World.size_alloc] at this
    exact this
  have hsz : ((w.alloc (.cells #[.string (mkS p)] 9)).alloc (.cells (fileC sl f) 64)).heap.size = w.heap.size + 2 := by rw [World.size_alloc, World.size_alloc]
  have HB1 := Lib.hid hB1
  have HC0 := Lib.hid hc0
  have HCF := Lib.hid hcf
  have HSZ := Lib.hid hsz
  clear hB0 hB1 hc0 hcf hsz h
  unfold fileV fileC at *
  go_enter Tryd.func36, Tryd.ntmps36
  go_wp2_with fail
  refine HD.out.mono ?_
  rintro e w2 ⟨rfl, hM2, hg2⟩
  have HG := Lib.hid ((below_grown HB1.out (some mb)).andThen hg2 (fun j hj => .inr hj))
  have hk0 : w2.cell? ⟨w.heap.size, 0, none⟩ = some (.string (mkS p)) := by
    rw [World.cell?_of_block (hg2.block w.heap.size (by rw [HSZ.out]; omega) (by simp; omega))]
    exact HC0.out
  have hkf : ∀ j, w2.cell? ⟨w.heap.size + 1, j, none⟩ = [Value.int .i64 f.size, .int .i64 f.time, .int .i64 f.chg, .slice (sl f.body).q (sl f.body).n (sl f.body).c][j]? := fun j => by
    rw [World.cell?_of_block (hg2.block (w.heap.size + 1) (by rw [HSZ.out]; omega) (by simp; omega))]
    exact HCF.out j
  have f0 := hkf 0
  have f1 := hkf 1
  have f2 := hkf 2
  have f3 := hkf 3
  simp at f0 f1 f2 f3
  have HM2 := Lib.hid hM2
  clear hkf hg2 hM2 HD
  go_wp2_with (first | (refine wpl_update8 _ rfl _ _ _ rfl mapT strT rfl HM2.out p rfl _ rfl ?_; intro w3 hM3 hg3 hz3; simp only [Act.put]) | go_in)
  go_end0
  exact ⟨rfl, hM3.of_perm HPF.out, HG.out.andThen hg3 (fun j hj => .inr hj)⟩
end Go.Proofs.YtbijgbjlljaolaaDoor
/- The program's changes: closures that do to a map what a change does. -/
namespace Go.Proofs.YtbijgbjlljaolaaDoor
open Go Go.RowKit

/-- A box of a string. -/
def BoxS (w : World) (b : Nat) (p : S8) : Prop := w.heap[b]? = some (.cells #[.string (mkS p)] 9 (0, 0))
/-- A box of a file. -/
def BoxF (w : World) (b : Nat) (sl : Nat → Hn) (f : Fl) : Prop := w.heap[b]? = some (.cells (fileC sl f) 64 (0, 0))
theorem BoxS.cell {w : World} {b : Nat} {p : S8} (h : BoxS w b p) : w.cell? ⟨b, 0, none⟩ = some (.string (mkS p)) := by
  unfold World.cell?
  rw [show w.heap[b]? = _ from h]
  simp
theorem BoxF.cell {w : World} {b : Nat} {sl : Nat → Hn} {f : Fl} (h : BoxF w b sl f) (j : Nat) : w.cell? ⟨b, j, none⟩ = [Value.int .i64 f.size, .int .i64 f.time, .int .i64 f.chg, .slice (sl f.body).q (sl f.body).n (sl f.body).c][j]? := by
  unfold World.cell?
  rw [show w.heap[b]? = _ from h]
  simp [fileC]
theorem BoxS.lt {w : World} {b : Nat} {p : S8} (h : BoxS w b p) : b < w.heap.size := (Array.getElem?_eq_some_iff.1 h).1
theorem BoxF.lt {w : World} {b : Nat} {sl : Nat → Hn} {f : Fl} (h : BoxF w b sl f) : b < w.heap.size := (Array.getElem?_eq_some_iff.1 h).1
/-- A value is the closure of a change; what it has captured lies where S holds. -/
inductive ClsV (w : World) (S : Nat → Prop) (sl : Nat → Hn) (c : Ch) (v : Value) : Prop
  | write (b1 b2 : Nat) (hk : c.kind = 1) (hv : v = .func (.func 35) #[] #[.pointer (some ⟨b1, 0, none⟩), .pointer (some ⟨b2, 0, none⟩)]) (h1 : BoxS w b1 c.file.p) (h2 : BoxF w b2 sl c.file) (s1 : S b1) (s2 : S b2)
  | rename (b1 b2 : Nat) (hk : c.kind = 2) (hv : v = .func (.func 40) #[] #[.pointer (some ⟨b1, 0, none⟩), .pointer (some ⟨b2, 0, none⟩)]) (h1 : BoxS w b1 c.src) (h2 : BoxS w b2 c.file.p) (s1 : S b1) (s2 : S b2)
  | remove (b1 : Nat) (hk : c.kind = 3) (hv : v = .func (.func 41) #[] #[.pointer (some ⟨b1, 0, none⟩)]) (h1 : BoxS w b1 c.src) (s1 : S b1)
theorem ClsV.keep {w w' : World} {S S' : Nat → Prop} {sl : Nat → Hn} {c : Ch} {v : Value} (h : ClsV w S sl c v) (hk : ∀ k T cs, S k → w.heap[k]? = some (.cells cs T (0, 0)) → (T = 9 ∨ T = 64) → w'.heap[k]? = w.heap[k]?) (hS : ∀ k, S k → S' k) : ClsV w' S' sl c v := by
  cases h with
  | write b1 b2 hk1 hv h1 h2 s1 s2 => exact .write b1 b2 hk1 hv ((hk b1 _ _ s1 h1 (.inl rfl)).trans h1) ((hk b2 _ _ s2 h2 (.inr rfl)).trans h2) (hS _ s1) (hS _ s2)
  | rename b1 b2 hk1 hv h1 h2 s1 s2 => exact .rename b1 b2 hk1 hv ((hk b1 _ _ s1 h1 (.inl rfl)).trans h1) ((hk b2 _ _ s2 h2 (.inl rfl)).trans h2) (hS _ s1) (hS _ s2)
  | remove b1 hk1 hv h1 s1 => exact .remove b1 hk1 hv ((hk b1 _ _ s1 h1 (.inl rfl)).trans h1) (hS _ s1)
set_option maxHeartbeats 4000000 in
theorem wrC_any (sl : Nat → Hn) (l : List Fl) (c : Ch) (b1 b2 mb : Nat) (w : World) (hk : c.kind = 1) (h : MpB w mb (l.map (entV sl))) (h1 : BoxS w b1 c.file.p) (h2 : BoxF w b2 sl c.file) (hp : c.file.p.length < 100000) (hs : ShortF l) :
    Calls Tryd.prog 35 #[.map (some mb), .pointer (some ⟨b1, 0, none⟩), .pointer (some ⟨b2, 0, none⟩)] w fun e w' => e = .returned (.tuple #[]) ∧ MpB w' mb ((doL l c).map (entV sl)) ∧ w.grownBy w' (some mb) := by
  have HP := Lib.hid (put_any sl l c.file.p c.file rfl mb w h hp hs)
  have e1 : doL l c = withoutL l c.file.p true ++ [c.file] := by unfold doL; rw [hk]; rfl
  have HE := Lib.hid e1
  have f0 := h1.cell
  have g0 := h2.cell 0
  have g1 := h2.cell 1
  have g2 := h2.cell 2
  have g3 := h2.cell 3
  simp at g0 g1 g2 g3
  clear h1 h2 h e1
  unfold fileV fileC at *
  go_enter Tryd.func35, Tryd.ntmps35
  go_wp2_with fail
  refine HP.out.mono ?_
  rintro e w2 ⟨rfl, hM2, hg2⟩
  have HM := Lib.hid hM2
  have HG := Lib.hid hg2
  clear hM2 hg2
  go_wp2
  go_end0
  exact ⟨rfl, by rw [HE.out]; exact HM.out, HG.out⟩
set_option maxHeartbeats 4000000 in
theorem rmC_any (sl : Nat → Hn) (l : List Fl) (c : Ch) (b1 mb : Nat) (w : World) (hk : c.kind = 3) (h : MpB w mb (l.map (entV sl))) (h1 : BoxS w b1 c.src) : Calls Tryd.prog 41 #[.map (some mb), .pointer (some ⟨b1, 0, none⟩)] w fun e w' => e = .returned (.tuple #[]) ∧ MpB w' mb ((doL l c).map (entV sl)) ∧ w.grownBy w' (some mb) := by
  have e1 : doL l c = withoutL l c.src false := by unfold doL; rw [hk]; rfl
  have HE := Lib.hid (e1.symm ▸ delV_ent sl l c.src)
  have f0 := h1.cell
  have HM := Lib.hid h
  clear h1 h e1
  go_enter Tryd.func41, Tryd.ntmps41
  go_wp2_with (first | (refine wpl_delete8 _ rfl _ _ rfl mapT strT rfl HM.out c.src rfl ?_; intro w3 hM3 hg3 hz3; simp only [Act.put]) | go_in)
  go_end0
  exact ⟨rfl, by rw [← HE.out]; exact hM3, hg3⟩
theorem zeroFile (w : World) : (zeroValue 64).run Tryd.prog w = .ok (.agg #[.int .i64 0, .int .i64 0, .int .i64 0, .slice none 0 0]) w := by kernel_rfl
theorem look_none {sl : Nat → Hn} {l : List Fl} {p : S8} {mb : Nat} {w : World} (h : MpB w mb (l.map (entV sl))) (hf : findL l p = none) :
    (Instr.lookup 53 (.map (some mb)) (.string (mkS p)) true).run Tryd.prog w = .ok (.tuple #[.agg #[.int .i64 0, .int .i64 0, .int .i64 0, .slice none 0 0], .bool false]) w := by
  have hl := run_lookup8 (P := Tryd.prog) mapT strT (zeroFile w) h p true
  rw [findV_ent, hf] at hl
  exact hl
theorem look_some {sl : Nat → Hn} {l : List Fl} {p : S8} {mb : Nat} {w : World} (h : MpB w mb (l.map (entV sl))) {i : Nat} (hf : findL l p = some i) (x : Fl) (hx : l.getD i fl0 = x) :
    (Instr.lookup 53 (.map (some mb)) (.string (mkS p)) true).run Tryd.prog w = .ok (.tuple #[.agg #[.int .i64 x.size, .int .i64 x.time, .int .i64 x.chg, .slice (sl x.body).q (sl x.body).n (sl x.body).c], .bool true]) w := by
  have hl := run_lookup8 (P := Tryd.prog) mapT strT (zeroFile w) h p true
  rw [findV_ent, hf] at hl
  subst hx
  exact hl
theorem without_short {l : List Fl} {p : S8} {cl : Bool} (h : ShortF l) : ShortF (withoutL l p cl) := by
  rw [shortF_iff] at h ⊢
  exact fun f hf => h f (without_mem hf)
set_option maxRecDepth 100000 in
set_option maxHeartbeats 8000000 in
theorem rnC_any (sl : Nat → Hn) (l : List Fl) (c : Ch) (b1 b2 mb : Nat) (w : World) (hk : c.kind = 2) (h : MpB w mb (l.map (entV sl))) (h1 : BoxS w b1 c.src) (h2 : BoxS w b2 c.file.p) (hp : c.file.p.length < 100000) (hs : ShortF l) (hm1 : b1 ≠ mb) (hm2 : b2 ≠ mb) :
    Calls Tryd.prog 40 #[.map (some mb), .pointer (some ⟨b1, 0, none⟩), .pointer (some ⟨b2, 0, none⟩)] w fun e w' => e = .returned (.tuple #[]) ∧ MpB w' mb ((doL l c).map (entV sl)) ∧ w.grownBy w' (some mb) := by
  have f1 := h1.cell
  cases hf : findL l c.src with
  | none =>
    have hl := look_none h hf
    have e1 : doL l c = l := by unfold doL; rw [hk]; dsimp only; rw [hf]; rfl
    have hB := ((Below.refl w.heap.size w).alloc (Nat.le_refl _) (.cells #[.int .i64 0, .int .i64 0, .int .i64 0, .slice none 0 0] 64))
    have HM := Lib.hid (h.of_below hB)
    have HG := Lib.hid (below_grown hB (some mb))
    have HE := Lib.hid e1
    clear h h1 h2 e1 hB
    go_enter Tryd.func40, Tryd.ntmps40
    go_wp2
    refine bodyPost_ret (results_none rfl _ _ _) rfl ?_
    exact ⟨rfl, by rw [HE.out]; exact HM.out, HG.out⟩
  | some i =>
    obtain ⟨x, hx⟩ : ∃ x, l.getD i fl0 = x := ⟨_, rfl⟩
    have hl := look_some h hf x hx
    have e1 : doL l c = withoutL (withoutL l c.src false) c.file.p true ++ [{ x with p := c.file.p }] := by unfold doL; rw [hk]; dsimp only; rw [hf, ← hx]; rfl
    have HE := Lib.hid e1
    have hB := ((Below.refl w.heap.size w).alloc (Nat.le_refl _) (.cells #[.int .i64 x.size, .int .i64 x.time, .int .i64 x.chg, .slice (sl x.body).q (sl x.body).n (sl x.body).c] 64))
    have HM := Lib.hid (h.of_below hB)
    have HG := Lib.hid (below_grown hB (some mb))
    have hmb := h.lt
    have hb1 := (hB.cell h1.lt).trans f1
    have HF1 := Lib.hid hb1
    have HF2 := Lib.hid ((hB.cell h2.lt).trans h2.cell)
    have HL1 := Lib.hid h1.lt
    have HL2 := Lib.hid h2.lt
    have HX := Lib.hid (box4_cell w 64 (.int .i64 x.size) (.int .i64 x.time) (.int .i64 x.chg) (.slice (sl x.body).q (sl x.body).n (sl x.body).c))
    have HS := Lib.hid (without_short (p := c.src) (cl := false) hs)
    have HK := Lib.hid (fun (w3 : World) (hg3 : (w.alloc (.cells #[.int .i64 x.size, .int .i64 x.time, .int .i64 x.chg, .slice (sl x.body).q (sl x.body).n (sl x.body).c] 64)).grownBy w3 (some mb)) => (by
      have k3 : ∀ j, w3.cell? ⟨w.heap.size, j, none⟩ = [Value.int .i64 x.size, .int .i64 x.time, .int .i64 x.chg, .slice (sl x.body).q (sl x.body).n (sl x.body).c][j]? := fun j => by
        rw [World.cell?_of_block (hg3.block w.heap.size (by rw [World.size_alloc]; omega) (by simp; omega))]
        exact HX.out j
      refine ⟨?_, k3 0, k3 1, k3 2, k3 3⟩
      rw [World.cell?_of_block (hg3.block b2 (by rw [World.size_alloc]; have := HL2.out; omega) (by simpa using hm2))]
      exact HF2.out : w3.cell? ⟨b2, 0, none⟩ = some (.string (mkS c.file.p)) ∧ w3.cell? ⟨w.heap.size, 0, none⟩ = some (.int .i64 x.size) ∧ w3.cell? ⟨w.heap.size, 1, none⟩ = some (.int .i64 x.time) ∧ w3.cell? ⟨w.heap.size, 2, none⟩ = some (.int .i64 x.chg) ∧ w3.cell? ⟨w.heap.size, 3, none⟩ = some (.slice (sl x.body).q (sl x.body).n (sl x.body).c)))
    have HPU := Lib.hid (fun (w3 : World) (hM3 : MpB w3 mb ((withoutL l c.src false).map (entV sl))) => (by exact put_any sl _ c.file.p { x with p := c.file.p } rfl mb w3 hM3 hp HS.out : Calls Tryd.prog 36 #[.map (some mb), .string (mkS c.file.p), .agg #[.int .i64 x.size, .int .i64 x.time, .int .i64 x.chg, .slice (sl x.body).q (sl x.body).n (sl x.body).c]] w3 fun e w' => e = .returned (.tuple #[]) ∧ MpB w' mb ((withoutL (withoutL l c.src false) c.file.p true ++ [{ x with p := c.file.p }]).map (entV sl)) ∧ w3.grownBy w' (some mb)))
    clear h h1 h2 e1 hB
    go_enter Tryd.func40, Tryd.ntmps40
    go_wp2_with (first | (refine wpl_delete8 _ rfl _ _ rfl mapT strT rfl HM.out c.src rfl ?_; intro w3 hM3 hg3 hz3; obtain ⟨k2, g0, g1, g2, g3⟩ := HK.out w3 hg3; rw [delV_ent] at hM3; have HM3 := Lib.hid hM3; have HG3 := Lib.hid (HG.out.andThen hg3 (fun j hj => .inr hj)); clear hM3 hg3 hz3 hl hb1 f1; simp only [Act.put]) | (go_at_call 36; refine (HPU.out _ HM3.out).mono ?_; rintro e w4 ⟨rfl, hM4, hg4⟩) | go_in)
    have HM4 := Lib.hid hM4
    have HG4 := Lib.hid (HG3.out.andThen hg4 (fun j hj => .inr hj))
    go_end0
    exact ⟨rfl, by rw [HE.out]; exact HM4.out, HG4.out⟩
end Go.Proofs.YtbijgbjlljaolaaDoor
/- Bytes appended to a slice of the call's own; slices of bytes as strings. -/
namespace Go.Proofs.YtbijgbjlljaolaaDoor
open Go Go.RowKit

theorem info5 : (Tryd.prog.info? 5).map (fun i => (i.zero, i.size, i.bytes)) = some (some (.int .u8 0), 1, 1) := by kernel_rfl
theorem und35 : Tryd.prog.underlying 28 = some (.slice 5) := by kernel_rfl
/-- The slice v, among the blocks from base on, holds the bytes l. -/
def OwnB (w : World) (base : Nat) (v : Value) (l : List (BitVec 8)) : Prop := w.ownsRow base 5 1 v l.length (l.map B)
theorem Sl.news {w : World} {a : Addr} {l : List (BitVec 8)} (h : Sl w (some a) l) : ∀ j u, (l.map B)[j]? = some u → w.cell? (a.add j) = some u := fun j u hu => by
  have hj : j < l.length := by
    have := (List.getElem?_eq_some_iff.1 hu).1
    simpa using this
  obtain ⟨c, o, e, hc⟩ := h j hj
  injection e with e
  subst e
  rw [Addr.add_mid, hc]
  simp [hj] at hu
  simp [hj, hu]
theorem one_map (l : List (BitVec 8)) : ∀ u ∈ l.map B, u.oneCell' = true := by
  intro u hu
  simp only [List.mem_map] at hu
  obtain ⟨x, _, rfl⟩ := hu
  exact one_B x
theorem append_own (w : World) (base : Nat) (ty : TypeId) (v : Value) (l : List (BitVec 8)) (hown : OwnB w base v l) (p : Option Addr) (n cap : Nat) (bs : List (BitVec 8)) (hbl : bs.length = n) (hs : Sl w p bs) (hc : p = none → cap = 0)
    (hn : l.length + n < 1000000000000) (hb : base ≤ w.heap.size) :
    ∃ v' w', (Builtin.append_ #[28, 28] ty #[v, .slice p n cap]).run Tryd.prog w = .ok v' w' ∧ OwnB w' base v' (l ++ bs) ∧ w.grownBy w' v.ownBlock := by
  subst hbl
  obtain ⟨i0, hi, hz0, hz1, hz2⟩ := info_parts info5
  cases p with
  | some a =>
    obtain ⟨v', w', h1, h2, h3, _⟩ := run_append_own (P := Tryd.prog) w base 28 ty 5 i0 (.int .u8 0) 1 1 und35 hi hz0 hz1 hz2 rfl (by decide) v l.length (l.map B) hown a bs.length cap (bs.map B) (by simp) hs.news (one_map bs)
      (by simp only [maxLen]; omega) (by omega) hb
    exact ⟨v', w', h1, by unfold OwnB; rw [List.length_append, List.map_append]; exact h2, h3⟩
  | none =>
    have : bs = [] := by
      cases bs with
      | nil => rfl
      | cons x r => obtain ⟨c, o, e, _⟩ := hs 0 (by simp); cases e
    subst this
    obtain rfl := hc rfl
    exact ⟨v, w, run_append_owned_none (P := Tryd.prog) w base 28 ty 5 i0 1 und35 hi v l.length (l.map B) hown, by rw [List.append_nil]; exact hown, World.grownBy.refl _ _⟩
theorem wpl_append {ops : Array Oper} {rest : List Oper} {o : Oper} {a : Act} {Q : Exit → Act → World → Prop} (w : World) (hgd : o.guard = none) (s x : Operand)
    (ho : o.op = .call { callee := .builtin .append, args := #[s, x], argTypes := #[28, 28] })
    (base : Nat) (v : Value) (l : List (BitVec 8)) (hs : a.eval s = v) (hown : OwnB w base v l) (p : Option Addr) (n cap : Nat) (bs : List (BitVec 8)) (hbl : bs.length = n) (hx : a.eval x = .slice p n cap) (hsl : Sl w p bs) (hc : p = none → cap = 0)
    (hn : l.length + n < 1000000000000) (hb : base ≤ w.heap.size)
    (h : ∀ v' w', OwnB w' base v' (l ++ bs) → w.grownBy w' v.ownBlock → wpList Tryd.prog ops Q rest (a.put o.dst v') w') : wpList Tryd.prog ops Q (o :: rest) a w := by
  refine wpList_plain hgd fun K hK => ?_
  obtain ⟨v', w', hr, h2, h3⟩ := append_own w base o.type v l hown p n cap bs hbl hsl hc hn hb
  unfold Oper.wp execOp
  simp only [ho, resolve, invoke, builtin, Sem.run_bind, Sem.run_pure, Result.andThen_ok, List.map_toArray, List.map_cons, List.map_nil, hs, hx, hr]
  exact hK _ _ (h v' w' h2 h3)
section
variable {w w' : World} {base : Nat} {v : Value} {l : List (BitVec 8)}
theorem OwnB.shape (h : OwnB w base v l) : ∃ p cap, v = .slice p l.length cap ∧ Sl w p l ∧ (p = none → cap = 0) ∧ l.length ≤ cap := by
  rcases h.2 with ⟨hv, hl⟩ | ⟨g, cap, cur, hv, _, hg, hle, _, hsz, ht⟩
  · refine ⟨none, 0, by rw [hv, hl], fun j hj => absurd hj (by omega), fun _ => rfl, by omega⟩
  · refine ⟨some ⟨g, 0, none⟩, cap, hv, fun j hj => ⟨g, 0, rfl, ?_⟩, (fun h => by cases h), hle⟩
    rw [Nat.zero_add, cell_of_row w g j cur 5 (0, 0) hg]
    have h1 : (cur.toList.take (l.length * 1))[j]? = (l.map B)[j]? := by rw [ht]
    rw [List.getElem?_take, if_pos (by omega)] at h1
    simpa [hj] using h1
theorem OwnB.lt (h : OwnB w base v l) : ∀ k, v.ownBlock = some k → base ≤ k ∧ k < w.heap.size := World.ownsRow.lt h
theorem OwnB.keep (h : OwnB w base v l) (hb : ∀ k, v.ownBlock = some k → w'.heap[k]? = w.heap[k]?) : OwnB w' base v l := by
  refine ⟨h.1, ?_⟩
  rcases h.2 with h' | ⟨g, cap, cur, hv, h1, hg, r⟩
  · exact .inl h'
  · exact .inr ⟨g, cap, cur, hv, h1, by rw [hb g (by rw [hv]; rfl)]; exact hg, r⟩
theorem OwnB.of_below (h : OwnB w base v l) (k : Below w.heap.size w w') : OwnB w' base v l := h.keep fun g hg => k.block g (h.lt g hg).2
theorem OwnB.empty (w : World) (base : Nat) (hb : base ≤ w.heap.size) : OwnB (w.alloc (.cells #[] 5)) base (.slice (some ⟨w.heap.size, 0, none⟩) 0 0) [] := by
  have := World.ownsRow_lit (e := 5) (size := 1) (base := base) w #[] 0 hb (by simp only [maxLen]; omega) (by simp)
  unfold OwnB
  simpa using this
end
/-- Bytes as a string. -/
def strOf (l : List (BitVec 8)) : ByteArray := ⟨(l.map UInt8.ofBitVec).toArray⟩
theorem conv_str (w : World) (p : Option Addr) (l : List (BitVec 8)) (n cap : Nat) (h : Sl w p l) (hl : l.length = n) (hp : p = none → cap = 0) :
    (convert 28 9 (.slice p n cap)).run Tryd.prog w = .ok (.string (strOf l)) w := by
  subst hl
  cases p with
  | none =>
    have : l = [] := by
      cases l with
      | nil => rfl
      | cons x r => obtain ⟨c, o, e, _⟩ := h 0 (by simp); cases e
    subst this
    show (convert 28 9 (.slice none 0 cap)).run Tryd.prog w = _
    rw [run_convert_bytes_string (P := Tryd.prog) w 28 9 5 none 0 cap und35 (by kernel_rfl) (by kernel_rfl)]
    rfl
  | some a =>
    have := run_convert_bytes_back (P := Tryd.prog) w 28 9 5 a cap (l.map UInt8.ofBitVec) und35 (by kernel_rfl) (by kernel_rfl) (fun j hj => by
      have hj' : j < l.length := by simpa using hj
      obtain ⟨c', o', e, hc⟩ := h j hj'
      injection e with e
      subst e
      rw [Addr.add_mid, hc]
      simp [hj', B_eq'])
    rw [List.length_map] at this
    exact this
end Go.Proofs.YtbijgbjlljaolaaDoor
/- Lists of structs (of whatever kind, whose cells are numbers, strings, headers) as rows of cells: they lie where a slice begins; one of the call's own is appended to. -/
namespace Go.Proofs.YtbijgbjlljaolaaDoor
open Go Go.RowKit

/-- T: slices of E; an element has k cells, z is its zero. -/
structure ElK (T E : TypeId) (z : Value) (k b : Nat) : Prop where
  und : Tryd.prog.underlying T = some (.slice E)
  inf : (Tryd.prog.info? E).map (fun i => (i.zero, i.size, i.bytes)) = some (some z, k, b)
  zc : z.cells.size = k
  pos : 0 < k
  few : b ≤ 100
/-- The cells lie where a slice begins. -/
def LsC (w : World) (p : Option Addr) (cs : List Value) : Prop := ∀ j, j < cs.length → ∃ c o, p = some ⟨c, o, none⟩ ∧ w.cell? ⟨c, o + j, none⟩ = cs[j]?
section
variable {w w' : World} {p : Option Addr} {cs : List Value}
theorem LsC.nil (w : World) (p : Option Addr) : LsC w p [] := fun j hj => absurd hj (by simp)
theorem LsC.lt (h : LsC w p cs) (hl : 0 < cs.length) : ∃ c o, p = some ⟨c, o, none⟩ ∧ c < w.heap.size := by
  obtain ⟨c, o, e, hc⟩ := h 0 hl
  rw [List.getElem?_eq_getElem hl] at hc
  exact ⟨c, o, e, World.block_lt_of_cell? w _ hc⟩
theorem LsC.keep (h : LsC w p cs) (hk : ∀ c o, p = some ⟨c, o, none⟩ → c < w.heap.size → w'.heap[c]? = w.heap[c]?) : LsC w' p cs := fun j hj => by
  obtain ⟨c, o, e, hc⟩ := h j hj
  refine ⟨c, o, e, ?_⟩
  have hlt : c < w.heap.size := by
    rw [List.getElem?_eq_getElem hj] at hc
    exact World.block_lt_of_cell? w _ hc
  rw [World.cell?_of_block (w := w) (hk c o e hlt)]
  exact hc
theorem LsC.of_below (h : LsC w p cs) (hB : Below w.heap.size w w') : LsC w' p cs := h.keep fun c o _ hlt => hB.block c hlt
theorem LsC.news {a : Addr} (h : LsC w (some a) cs) : ∀ j u, cs[j]? = some u → w.cell? (a.add j) = some u := fun j u hu => by
  have hj : j < cs.length := by rw [List.getElem?_eq_some_iff] at hu; exact hu.1
  obtain ⟨c, o, e, hc⟩ := h j hj
  injection e with e
  subst e
  rw [Addr.add_mid]
  exact hc.trans hu
theorem LsC.take (h : LsC w p cs) (m : Nat) : LsC w p (cs.take m) := fun j hj => by
  have hj' : j < m ∧ j < cs.length := by rw [List.length_take] at hj; omega
  obtain ⟨c, o, e, hc⟩ := h j hj'.2
  exact ⟨c, o, e, by rw [List.getElem?_take, if_pos hj'.1]; exact hc⟩
theorem LsC.cell (h : LsC w p cs) {j : Nat} {u : Value} (hu : cs[j]? = some u) : ∃ c o, p = some ⟨c, o, none⟩ ∧ c < w.heap.size ∧ w.cell? ⟨c, o + j, none⟩ = some u := by
  have hj : j < cs.length := by rw [List.getElem?_eq_some_iff] at hu; exact hu.1
  obtain ⟨c, o, e, hc⟩ := h j hj
  rw [hu] at hc
  exact ⟨c, o, e, World.block_lt_of_cell? w _ hc, hc⟩
end
theorem LsC.made (w : World) (cs : List Value) (t : TypeId) : LsC (w.alloc (.cells cs.toArray t)) (some ⟨w.heap.size, 0, none⟩) cs := fun j hj => by
  refine ⟨w.heap.size, 0, rfl, ?_⟩
  have h := World.alloc_heap_new w (.cells cs.toArray t)
  unfold World.cell?
  simp only [h]
  simp
section
variable {w w' : World} {T E : TypeId} {z : Value} {k b base n : Nat} {v : Value} {cs : List Value}
theorem own_keep (h : w.ownsRow base E k v n cs) (hb : ∀ g, v.ownBlock = some g → w'.heap[g]? = w.heap[g]?) : w'.ownsRow base E k v n cs := by
  refine ⟨h.1, ?_⟩
  rcases h.2 with h' | ⟨g, cap, cur, hv, h1, hg, r⟩
  · exact .inl h'
  · exact .inr ⟨g, cap, cur, hv, h1, by rw [hb g (by rw [hv]; rfl)]; exact hg, r⟩
theorem own_below (h : w.ownsRow base E k v n cs) (hB : Below w.heap.size w w') : w'.ownsRow base E k v n cs := own_keep h fun g hg => hB.block g (h.lt g hg).2
theorem own_lower (h : w.ownsRow base E k v n cs) {b2 : Nat} (hb : b2 ≤ base) : w.ownsRow b2 E k v n cs := by
  refine ⟨h.1, ?_⟩
  rcases h.2 with h' | ⟨g, cap, cur, hv, h1, r⟩
  · exact .inl h'
  · exact .inr ⟨g, cap, cur, hv, Nat.le_trans hb h1, r⟩
theorem own_len (h : w.ownsRow base E k v n cs) : cs.length = n * k := h.1
/-- How such a list reads. -/
theorem own_shape (h : w.ownsRow base E k v n cs) : ∃ p cap, v = .slice p n cap ∧ LsC w p cs ∧ (p = none → cap = 0) ∧ n ≤ cap ∧ ∀ c o, p = some ⟨c, o, none⟩ → base ≤ c ∧ c < w.heap.size := by
  have hlt := h.lt
  rcases h.2 with ⟨rfl, hn⟩ | ⟨g, cap, cur, hv, hb, hg, hle, _, hsz, ht⟩
  · have hl := h.1
    rw [hn] at hl
    exact ⟨none, 0, by rw [hn], fun j hj => absurd hj (by omega), fun _ => rfl, by omega, fun c o e => by cases e⟩
  · refine ⟨some ⟨g, 0, none⟩, cap, hv, fun j hj => ⟨g, 0, rfl, ?_⟩, (fun e => by cases e), hle, fun c o e => ?_⟩
    · subst hv
      rw [Nat.zero_add]
      exact h.cellAt j (by rw [← h.1]; exact hj)
    · injection e with e
      injection e with e1 e2
      subst e1
      exact hlt g (by rw [hv]; rfl)
theorem own_empty (w : World) (base : Nat) (hb : base ≤ w.heap.size) : (w.alloc (.cells #[] E)).ownsRow base E k (.slice (some ⟨w.heap.size, 0, none⟩) 0 0) 0 [] :=
  World.ownsRow_made (size := k) w #[] 0 hb (by simp [maxLen]) (by simp)
/-- Elements behind those of an own list. -/
theorem append_ownK (K : ElK T E z k b) (w : World) (base : Nat) (ty : TypeId) (hown : w.ownsRow base E k v n cs) (p : Option Addr) (m c : Nat) (news : List Value) (hnl : news.length = m * k) (hs : LsC w p news) (hp : p = none → c = 0 ∧ m = 0) (h1 : ∀ u ∈ news, u.oneCell' = true)
    (hn : n + m < 100000000) (hb : base ≤ w.heap.size) :
    ∃ v' w', (Builtin.append_ #[T, T] ty #[v, .slice p m c]).run Tryd.prog w = .ok v' w' ∧ w'.ownsRow base E k v' (n + m) (cs ++ news) ∧ w.grownBy w' v.ownBlock ∧ (v'.ownBlock = v.ownBlock ∨ v'.ownBlock = some w.heap.size) := by
  obtain ⟨i0, hi, hz0, hz1, hz2⟩ := info_parts K.inf
  have hbb := K.few
  cases p with
  | some a =>
    obtain ⟨v', w', g1, g2, g3, _, g5⟩ := run_append_own_at (P := Tryd.prog) w base T ty E i0 z k b K.und hi hz0 hz1 hz2 K.zc K.pos v n cs hown a m c news hnl hs.news h1
      (by simp only [maxLen]; omega) (by have : (n + m) * b ≤ (n + m) * 100 := Nat.mul_le_mul_left _ hbb; omega) hb
    exact ⟨v', w', g1, g2, g3, g5⟩
  | none =>
    obtain ⟨rfl, rfl⟩ := hp rfl
    have : news = [] := List.eq_nil_of_length_eq_zero (by simpa using hnl)
    subst this
    exact ⟨v, w, run_append_owned_none (P := Tryd.prog) w base T ty E i0 k K.und hi v n cs hown, by rw [List.append_nil]; exact hown, World.grownBy.refl _ _, .inl rfl⟩
theorem wpl_appendK {ops : Array Oper} {rest : List Oper} {o : Oper} {a : Act} {Q : Exit → Act → World → Prop} (K : ElK T E z k b) (w : World) (hgd : o.guard = none) (s x : Operand)
    (ho : o.op = .call { callee := .builtin .append, args := #[s, x], argTypes := #[T, T] })
    (base : Nat) (hs : a.eval s = v) (hown : w.ownsRow base E k v n cs) (p : Option Addr) (m c : Nat) (news : List Value) (hnl : news.length = m * k) (hx : a.eval x = .slice p m c) (hl : LsC w p news) (hp : p = none → c = 0 ∧ m = 0) (h1 : ∀ u ∈ news, u.oneCell' = true)
    (hn : n + m < 100000000) (hb : base ≤ w.heap.size)
    (h : ∀ v' w', w'.ownsRow base E k v' (n + m) (cs ++ news) → w.grownBy w' v.ownBlock → (v'.ownBlock = v.ownBlock ∨ v'.ownBlock = some w.heap.size) → wpList Tryd.prog ops Q rest (a.put o.dst v') w') : wpList Tryd.prog ops Q (o :: rest) a w := by
  refine wpList_plain hgd fun K' hK => ?_
  obtain ⟨v', w', hr, h2, h3, h4⟩ := append_ownK K w base o.type hown p m c news hnl hl hp h1 hn hb
  unfold Oper.wp execOp
  simp only [ho, resolve, invoke, builtin, Sem.run_bind, Sem.run_pure, Result.andThen_ok, List.map_toArray, List.map_cons, List.map_nil, hs, hx, hr]
  exact hK _ _ (h v' w' h2 h3 h4)
theorem step_appendK {ops : Array Oper} {o : Oper} {a : Act} {Q : Exit → Act → World → Prop} {K' : Act → World → Prop} {Z : Prop} (K : ElK T E z k b) (w : World) (hgd : o.guard = none) (s x : Operand)
    (ho : o.op = .call { callee := .builtin .append, args := #[s, x], argTypes := #[T, T] })
    (base : Nat) (hs : a.eval s = v) (hown : w.ownsRow base E k v n cs) (p : Option Addr) (m c : Nat) (news : List Value) (hnl : news.length = m * k) (hx : a.eval x = .slice p m c) (hl : LsC w p news) (hp : p = none → c = 0 ∧ m = 0) (h1 : ∀ u ∈ news, u.oneCell' = true)
    (hn : n + m < 100000000) (hb : base ≤ w.heap.size)
    (h : ∀ v' w', w'.ownsRow base E k v' (n + m) (cs ++ news) → w.grownBy w' v.ownBlock → (v'.ownBlock = v.ownBlock ∨ v'.ownBlock = some w.heap.size) → K' (a.put o.dst v') w') : if Region.wanted o (yielded ops a.tmps) = true then Oper.wp Tryd.prog o a w K' Q else Z := by
  have hw : Region.wanted o (yielded ops a.tmps) = true := by simp [Region.wanted, hgd]
  rw [if_pos hw]
  obtain ⟨v', w', hr, h2, h3, h4⟩ := append_ownK K w base o.type hown p m c news hnl hl hp h1 hn hb
  unfold Oper.wp execOp
  simp only [ho, resolve, invoke, builtin, Sem.run_bind, Sem.run_pure, Result.andThen_ok, List.map_toArray, List.map_cons, List.map_nil, hs, hx, hr]
  exact h v' w' h2 h3 h4
end
end Go.Proofs.YtbijgbjlljaolaaDoor
/- Bytes as cells; cells lie where a slice begins, in a block where they may. -/
namespace Go.Proofs.YtbijgbjlljaolaaDoor
open Go Go.RowKit

theorem elB : ElK 28 5 (.int .u8 0) 1 1 := ⟨by kernel_rfl, by kernel_rfl, rfl, by decide, by decide⟩
/-- Bytes as cells. -/
def bytC (b : S8) : List Value := b.map fun c => .int .u8 (c.toNat : Int)
theorem bytC_len (b : S8) : (bytC b).length = b.length := by unfold bytC; rw [List.length_map]
theorem bytC_one (b : S8) : ∀ u ∈ bytC b, u.oneCell' = true := by
  intro u hu
  unfold bytC at hu
  obtain ⟨c, _, rfl⟩ := List.mem_map.1 hu
  rfl
theorem bytC_get (b : S8) (j : Nat) (hj : j < b.length) : (bytC b)[j]? = some (.int .u8 (chr b j : Int)) := by
  unfold bytC
  rw [List.getElem?_map, List.getElem?_eq_getElem hj, chr_eq hj]
  rfl
/-- Cells lie where a slice begins, in a block where they may. -/
structure LsG (G : Nat → Prop) (w : World) (p : Option Addr) (n cap k : Nat) (cs : List Value) : Prop where
  at_ : LsC w p cs
  len : cs.length = n * k
  may : ∀ c o, p = some ⟨c, o, none⟩ → 0 < cs.length → G c ∧ c < w.heap.size
  nil : p = none → cap = 0
  le : n ≤ cap
section
variable {G G' : Nat → Prop} {w w' : World} {p : Option Addr} {n cap k : Nat} {cs : List Value}
theorem LsG.keep (h : LsG G w p n cap k cs) (hk : ∀ c, G c → c < w.heap.size → w'.heap[c]? = w.heap[c]?) (hs : w.heap.size ≤ w'.heap.size) : LsG G w' p n cap k cs :=
  ⟨fun j hj => by
    obtain ⟨c, o, e, hc⟩ := h.at_ j hj
    have hm := h.may c o e (by omega)
    exact ⟨c, o, e, (World.cell?_of_block (w := w) (w' := w') (a := ⟨c, o + j, none⟩) (hk c hm.1 hm.2)).trans hc⟩, h.len, fun c o e hl => ⟨(h.may c o e hl).1, Nat.lt_of_lt_of_le (h.may c o e hl).2 hs⟩, h.nil, h.le⟩
theorem LsG.of_below (h : LsG G w p n cap k cs) (hB : Below w.heap.size w w') : LsG G w' p n cap k cs := h.keep (fun c _ hc => hB.block c hc) hB.size
theorem LsG.wider (h : LsG G w p n cap k cs) (hG : ∀ c, G c → c < w.heap.size → G' c) : LsG G' w p n cap k cs :=
  ⟨h.at_, h.len, fun c o e hl => ⟨hG c (h.may c o e hl).1 (h.may c o e hl).2, (h.may c o e hl).2⟩, h.nil, h.le⟩
theorem LsG.own {E : TypeId} {base : Nat} {v : Value} (h : w.ownsRow base E k v n cs) (hG : ∀ c, base ≤ c → G c) : ∃ p cap, v = .slice p n cap ∧ LsG G w p n cap k cs := by
  obtain ⟨p, cap, e, h1, h2, h3, h4⟩ := own_shape h
  exact ⟨p, cap, e, h1, h.1, fun c o ec _ => ⟨hG c (h4 c o ec).1, (h4 c o ec).2⟩, h2, h3⟩
theorem LsG.nilp (h : LsG G w p n cap k cs) (hk : 0 < k) : p = none → cap = 0 ∧ n = 0 := fun e => ⟨h.nil e, by have := h.nil e; have := h.le; omega⟩
end
end Go.Proofs.YtbijgbjlljaolaaDoor
