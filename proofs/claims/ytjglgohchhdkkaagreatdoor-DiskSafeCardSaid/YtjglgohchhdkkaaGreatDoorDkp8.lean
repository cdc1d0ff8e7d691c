/- What holds of every plain disk after so many calls. -/
import Derived.Test.YtjglgohchhdkkaaGreatDoorDsk8
set_option linter.unusedSimpArgs false
set_option linter.unusedVariables false
namespace Go.Proofs.YtjglgohchhdkkaaGreatDoor
open Go Go.RowKit

/-- No path of the list is long. -/
def ShortF (l : List Fl) : Prop := ∀ j, (l.getD j fl0).p.length ≤ 100
/-- A change as the disk makes it. -/
structure ChOk (c : Ch) : Prop where
  kind : c.kind = 1 ∨ c.kind = 2 ∨ c.kind = 3
  path : c.file.p.length ≤ 100
  src : c.src.length < 100000
theorem findL_lt {l : List Fl} {p : S8} {i : Nat} (h : findL l p = some i) : i < l.length := by
  unfold findL at h
  rw [List.findIdx?_eq_some_iff_getElem] at h
  exact h.1
theorem goodL_len {l : S8} (h : goodL l = true) : l.length ≤ 100 := by
  unfold goodL at h
  simp only [Bool.and_eq_true, decide_eq_true_eq] at h
  omega
/-- Each file's bytes have a number that there is. -/
def InB (m : Dk) : Prop := ∀ i, i < m.seen.length → (m.seen.getD i fl0).body < m.bodies.length
def usedTo (m : Dk) (k : Nat) : Nat := ((m.seen.take k).map fun f => (bodyL m f).length).sum
theorem usedTo_succ (m : Dk) (k : Nat) (hk : k < m.seen.length) : usedTo m (k + 1) = usedTo m k + (bodyL m (m.seen.getD k fl0)).length := by
  unfold usedTo
  rw [List.take_succ_eq_append_getElem hk, List.map_append, List.sum_append]
  have e : m.seen.getD k fl0 = m.seen[k] := by rw [List.getD_eq_getElem?_getD, List.getElem?_eq_getElem hk]; rfl
  rw [e]
  simp
theorem usedTo_all (m : Dk) : usedTo m m.seen.length = usedL m := by unfold usedTo usedL; rw [List.take_length]
/-- No body is long. -/
def ShortB (m : Dk) : Prop := ∀ i, (m.bodies.getD i []).length ≤ 300000
theorem usedTo_le (m : Dk) (hB : ShortB m) (k : Nat) : usedTo m k ≤ k * 300000 := by
  induction k with
  | zero => simp [usedTo]
  | succ k ih =>
    by_cases hk : k < m.seen.length
    · rw [usedTo_succ m k hk]
      have : (bodyL m (m.seen.getD k fl0)).length ≤ 300000 := hB _
      omega
    · have : usedTo m (k + 1) = usedTo m k := by unfold usedTo; rw [List.take_of_length_le (by omega), List.take_of_length_le (by omega)]
      omega
theorem shortF_iff {l : List Fl} : ShortF l ↔ ∀ f ∈ l, f.p.length ≤ 100 := by
  constructor
  · intro h f hf
    obtain ⟨j, hj, rfl⟩ := List.getElem_of_mem hf
    have := h j
    rw [List.getD_eq_getElem?_getD, List.getElem?_eq_getElem hj] at this
    exact this
  · intro h j
    by_cases hj : j < l.length
    · rw [List.getD_eq_getElem?_getD, List.getElem?_eq_getElem hj]
      exact h _ (List.getElem_mem hj)
    · rw [List.getD_eq_getElem?_getD, List.getElem?_eq_none (by omega)]
      exact Nat.zero_le _
theorem without_len (l : List Fl) (p : S8) (cl : Bool) : (withoutL l p cl).length ≤ l.length := by unfold withoutL; exact List.length_filter_le _ _
theorem doL_len (l : List Fl) (c : Ch) : (doL l c).length ≤ l.length + 1 := by
  unfold doL
  split
  · rw [List.length_append]
    exact Nat.add_le_add_right (without_len _ _ _) 1
  · split
    · omega
    · rw [List.length_append]
      exact Nat.add_le_add_right (Nat.le_trans (without_len _ _ _) (without_len _ _ _)) 1
  · exact Nat.le_trans (without_len _ _ _) (Nat.le_succ _)
theorem doL_short {l : List Fl} {c : Ch} (hc : ChOk c) (h : ShortF l) : ShortF (doL l c) := by
  rw [shortF_iff] at h ⊢
  have hw : ∀ {l : List Fl} {p cl f}, f ∈ withoutL l p cl → f ∈ l := fun hf => by unfold withoutL at hf; exact (List.mem_filter.1 hf).1
  intro f hf
  unfold doL at hf
  split at hf
  · rcases List.mem_append.1 hf with hf | hf
    · exact h f (hw hf)
    · simp at hf
      subst hf
      exact hc.path
  · split at hf
    · exact h f hf
    · rcases List.mem_append.1 hf with hf | hf
      · exact h f (hw (hw hf))
      · simp at hf
        subst hf
        exact hc.path
  · exact h f (hw hf)
theorem keptL_step (S : List Fl) (ws : List Ch) (ks : List Bool) (k : Nat) (hk : k < ws.length) :
    keptL S (ws.drop k) (ks.drop k) = keptL (if ks.getD k false then doL S ws[k] else S) (ws.drop (k + 1)) (ks.drop (k + 1)) := by
  rw [List.drop_eq_getElem_cons hk]
  have e : (ks.drop k).headD false = ks.getD k false := by rw [List.headD_eq_head?_getD, List.head?_drop, List.getD_eq_getElem?_getD]
  have e2 : (ks.drop k).tail = ks.drop (k + 1) := by rw [List.tail_drop]
  show keptL (if (ks.drop k).headD false then doL S ws[k] else S) (ws.drop (k + 1)) (ks.drop k).tail = _
  rw [e, e2]
theorem flip_len (b : S8) (a : Nat) (mask : UInt8) : (flipL b a mask).length = b.length := by unfold flipL; rw [List.length_set]
theorem leftL_none {m : Dk} {p : S8} (hf : findL m.seen p = none) : leftL m p = m.room - (usedL m : Int) := by unfold leftL; rw [hf]; simp
theorem leftL_some {m : Dk} {p : S8} {i : Nat} (hf : findL m.seen p = some i) : leftL m p = m.room - (usedL m : Int) + ((bodyL m (m.seen.getD i fl0)).length : Int) := by unfold leftL; rw [hf]
theorem usedL_le {m : Dk} (hB : ShortB m) {n : Nat} (hn : m.seen.length = n) : usedL m ≤ n * 300000 := by
  have := usedTo_le m hB n
  rwa [← hn, usedTo_all, hn] at this
/-- A disk after at most n calls. -/
structure DkOk (n : Nat) (m : Dk) : Prop where
  seen : m.seen.length ≤ n
  both : m.safe.length + m.waits.length ≤ n
  bod : m.bodies.length ≤ n
  cnt0 : 0 ≤ m.count
  cnt1 : m.count ≤ n
  shS : ShortF m.seen
  shF : ShortF m.safe
  chk : ∀ c ∈ m.waits, ChOk c
  inS : ∀ f ∈ m.seen, f.body < m.bodies.length
  inF : ∀ f ∈ m.safe, f.body < m.bodies.length
  inW : ∀ c ∈ m.waits, c.kind = 1 → c.file.body < m.bodies.length
  bs : ∀ b ∈ m.bodies, b.length ≤ 262144
theorem without_mem {l : List Fl} {p : S8} {cl : Bool} {f : Fl} (hf : f ∈ withoutL l p cl) : f ∈ l := by unfold withoutL at hf; exact (List.mem_filter.1 hf).1
theorem doL_body {l : List Fl} {c : Ch} {f : Fl} (hf : f ∈ doL l c) : (∃ g ∈ l, g.body = f.body) ∨ (c.kind = 1 ∧ f.body = c.file.body) := by
  unfold doL at hf
  split at hf
  · rename_i hk
    rcases List.mem_append.1 hf with hf | hf
    · exact .inl ⟨f, without_mem hf, rfl⟩
    · simp at hf
      subst hf
      exact .inr ⟨hk, rfl⟩
  · split at hf
    · exact .inl ⟨f, hf, rfl⟩
    · rename_i i hi
      rcases List.mem_append.1 hf with hf | hf
      · exact .inl ⟨f, without_mem (without_mem hf), rfl⟩
      · simp at hf
        have hil := findL_lt hi
        refine .inl ⟨l[i], List.getElem_mem hil, ?_⟩
        rw [hf, List.getElem?_eq_getElem hil]
        rfl
  · exact .inl ⟨f, without_mem hf, rfl⟩
theorem keptL_len (ws : List Ch) : ∀ (l : List Fl) (ks : List Bool), (keptL l ws ks).length ≤ l.length + ws.length := by
  induction ws with
  | nil => intro l ks; exact Nat.le_refl _
  | cons c r ih =>
    intro l ks
    show (keptL (if ks.headD false then doL l c else l) r ks.tail).length ≤ _
    refine Nat.le_trans (ih _ _) ?_
    have := doL_len l c
    rw [List.length_cons]
    split <;> omega
theorem keptL_short (ws : List Ch) : ∀ (l : List Fl) (ks : List Bool), (∀ c ∈ ws, ChOk c) → ShortF l → ShortF (keptL l ws ks) := by
  induction ws with
  | nil => intro l ks _ h; exact h
  | cons c r ih =>
    intro l ks hc h
    show ShortF (keptL (if ks.headD false then doL l c else l) r ks.tail)
    refine ih _ _ (fun x hx => hc x (List.mem_cons_of_mem _ hx)) ?_
    split
    · exact doL_short (hc c List.mem_cons_self) h
    · exact h
theorem keptL_body (ws : List Ch) : ∀ (l : List Fl) (ks : List Bool) (f : Fl), f ∈ keptL l ws ks → (∃ g ∈ l, g.body = f.body) ∨ ∃ c ∈ ws, c.kind = 1 ∧ f.body = c.file.body := by
  induction ws with
  | nil => intro l ks f hf; exact .inl ⟨f, hf, rfl⟩
  | cons c r ih =>
    intro l ks f hf
    replace hf : f ∈ keptL (if ks.headD false then doL l c else l) r ks.tail := hf
    rcases ih _ _ f hf with ⟨g, hg, e⟩ | ⟨d, hd, e⟩
    · split at hg
      · rcases doL_body hg with ⟨g2, hg2, e2⟩ | ⟨hk, e2⟩
        · exact .inl ⟨g2, hg2, e2.trans e⟩
        · exact .inr ⟨c, List.mem_cons_self, hk, by rw [← e, e2]⟩
      · exact .inl ⟨g, hg, e⟩
    · exact .inr ⟨d, List.mem_cons_of_mem _ hd, e⟩
section
variable {n : Nat} {m : Dk}
theorem DkOk.zero (room : Int) : DkOk 0 ⟨room, 0, [], [], [], []⟩ :=
  ⟨Nat.le_refl _, Nat.le_refl _, Nat.le_refl _, Int.le_refl _, Int.le_refl _, fun _ => Nat.zero_le _, fun _ => Nat.zero_le _, fun c hc => absurd hc (by simp), fun c hc => absurd hc (by simp), fun c hc => absurd hc (by simp), fun c hc => absurd hc (by simp), fun c hc => absurd hc (by simp)⟩
theorem DkOk.more (h : DkOk n m) : DkOk (n + 1) m :=
  ⟨by have := h.seen; omega, by have := h.both; omega, by have := h.bod; omega, h.cnt0, by have := h.cnt1; push_cast; omega, h.shS, h.shF, h.chk, h.inS, h.inF, h.inW, h.bs⟩
theorem DkOk.mono (h : DkOk n m) {k : Nat} (hk : n ≤ k) : DkOk k m :=
  ⟨Nat.le_trans h.seen hk, Nat.le_trans h.both hk, Nat.le_trans h.bod hk, h.cnt0, Int.le_trans h.cnt1 (by exact_mod_cast hk), h.shS, h.shF, h.chk, h.inS, h.inF, h.inW, h.bs⟩
theorem DkOk.inB (h : DkOk n m) : InB m := fun i hi => by
  have e : m.seen.getD i fl0 = m.seen[i] := by rw [List.getD_eq_getElem?_getD, List.getElem?_eq_getElem hi]; rfl
  rw [e]
  exact h.inS _ (List.getElem_mem hi)
theorem DkOk.shortB (h : DkOk n m) : ShortB m := fun i => by
  by_cases hi : i < m.bodies.length
  · rw [List.getD_eq_getElem?_getD, List.getElem?_eq_getElem hi]
    exact Nat.le_trans (h.bs _ (List.getElem_mem hi)) (by decide)
  · rw [List.getD_eq_getElem?_getD, List.getElem?_eq_none (by omega)]
    exact Nat.zero_le _
theorem DkOk.change (h : DkOk n m) (c : Ch) (hc : ChOk c) (hb : c.kind = 1 → c.file.body < m.bodies.length) : DkOk (n + 1) (changeL m c) := by
  refine ⟨Nat.le_trans (doL_len _ _) (Nat.add_le_add_right h.seen 1), ?_, Nat.le_trans h.bod (Nat.le_succ _), h.cnt0, by have := h.cnt1; show m.count ≤ _; push_cast; omega, doL_short hc h.shS, h.shF, ?_, ?_, h.inF, ?_, h.bs⟩
  · show m.safe.length + (m.waits ++ [c]).length ≤ _
    have := h.both
    rw [List.length_append]
    simp
    omega
  · intro x hx
    rcases List.mem_append.1 hx with hx | hx
    · exact h.chk x hx
    · simp at hx
      subst hx
      exact hc
  · intro f hf
    rcases doL_body hf with ⟨g, hg, e⟩ | ⟨hk, e⟩
    · rw [← e]; exact h.inS g hg
    · rw [e]; exact hb hk
  · intro x hx
    rcases List.mem_append.1 hx with hx | hx
    · exact h.inW x hx
    · simp at hx
      subst hx
      exact hb
theorem DkOk.remove (h : DkOk n m) (p : S8) (hp : p.length < 100000) : DkOk (n + 1) (removeL m p).1 := by
  unfold removeL
  split
  · exact h.more
  · exact h.change _ ⟨.inr (.inr rfl), Nat.zero_le _, hp⟩ (fun e => by exact absurd (show (3 : Nat) = 1 from e) (by decide))
theorem DkOk.rename (h : DkOk n m) (p q : S8) (hp : p.length < 100000) : DkOk (n + 1) (renameL m p q).1 := by
  unfold renameL
  split
  · exact h.more
  · split
    · exact h.more
    · rename_i hg
      split
      · exact h.more
      · exact h.change _ ⟨.inr (.inl rfl), goodL_len (by simpa using hg), hp⟩ (fun e => by exact absurd (show (2 : Nat) = 1 from e) (by decide))
theorem DkOk.sync (h : DkOk n m) : DkOk n (syncL m) :=
  ⟨h.seen, by show m.seen.length + 0 ≤ n; exact h.seen, h.bod, h.cnt0, h.cnt1, h.shS, h.shS, fun c hc => absurd hc (by simp [syncL]), h.inS, h.inS, fun c hc => absurd hc (by simp [syncL]), h.bs⟩
theorem DkOk.crash (h : DkOk n m) (ks : List Bool) : DkOk n (crashL m ks) := by
  have hl := Nat.le_trans (keptL_len m.waits m.safe ks) h.both
  have hs := keptL_short m.waits m.safe ks h.chk h.shF
  have hb : ∀ f ∈ keptL m.safe m.waits ks, f.body < m.bodies.length := fun f hf => by
    rcases keptL_body m.waits m.safe ks f hf with ⟨g, hg, e⟩ | ⟨c, hc, hk, e⟩
    · rw [← e]; exact h.inF g hg
    · rw [e]; exact h.inW c hc hk
  exact ⟨hl, hl, h.bod, h.cnt0, h.cnt1, hs, hs, fun c hc => absurd hc (by simp [crashL]), hb, hb, fun c hc => absurd hc (by simp [crashL]), h.bs⟩
theorem DkOk.rot (h : DkOk n m) (p : S8) (at_ : Int) (mask : UInt8) : DkOk n (rotL m p at_ mask).1 := by
  unfold rotL
  split
  · exact h
  · dsimp only
    split
    · exact h
    · rename_i i hi _
      refine ⟨h.seen, h.both, by rw [List.length_set]; exact h.bod, h.cnt0, h.cnt1, h.shS, h.shF, h.chk, fun f hf => by rw [List.length_set]; exact h.inS f hf, fun f hf => by rw [List.length_set]; exact h.inF f hf, fun c hc hk => by rw [List.length_set]; exact h.inW c hc hk, fun b hb => ?_⟩
      rcases List.mem_or_eq_of_mem_set hb with hb | hb
      · exact h.bs b hb
      · rw [hb, flip_len]
        unfold bodyL
        by_cases hx : (m.seen.getD i fl0).body < m.bodies.length
        · rw [List.getD_eq_getElem?_getD, List.getElem?_eq_getElem hx]
          exact h.bs _ (List.getElem_mem hx)
        · rw [List.getD_eq_getElem?_getD, List.getElem?_eq_none (by omega)]
          exact Nat.zero_le _
theorem DkOk.write (h : DkOk n m) (p b : S8) (time : Int) : DkOk (n + 1) (writeL m p b time).1 := by
  unfold writeL
  split
  · exact h.more
  · rename_i hg
    split
    · exact h.more
    · rename_i hl
      split
      · exact h.more
      · split
        · exact h.more
        · split
          · exact h.more
          · have hg2 : goodL p = true := by simpa using hg
            have h2 : ∀ k, k < m.bodies.length → k < (m.bodies ++ [b]).length := fun k hk => by rw [List.length_append]; omega
            refine ⟨(show (doL m.seen ⟨1, [], ⟨p, m.bodies.length, b.length, time, m.count + 1⟩⟩).length ≤ n + 1 from Nat.le_trans (doL_len _ _) (Nat.add_le_add_right h.seen 1)), ?_, ?_, ?_, ?_, (show ShortF (doL m.seen ⟨1, [], ⟨p, m.bodies.length, b.length, time, m.count + 1⟩⟩) from doL_short ⟨.inl rfl, goodL_len hg2, Nat.zero_lt_succ _⟩ h.shS), h.shF, ?_, ?_, fun f hf => h2 _ (h.inF f hf), ?_, ?_⟩
            · show m.safe.length + (m.waits ++ [_]).length ≤ _
              have := h.both
              rw [List.length_append]
              simp
              omega
            · show (m.bodies ++ [b]).length ≤ _
              have := h.bod
              rw [List.length_append]
              simp
              omega
            · show 0 ≤ m.count + 1
              have := h.cnt0
              omega
            · show m.count + 1 ≤ _
              have := h.cnt1
              push_cast
              omega
            · intro x hx
              rcases List.mem_append.1 hx with hx | hx
              · exact h.chk x hx
              · simp at hx
                subst hx
                exact ⟨.inl rfl, goodL_len hg2, by exact Nat.zero_lt_succ _⟩
            · intro f hf
              replace hf : f ∈ doL m.seen ⟨1, [], ⟨p, m.bodies.length, b.length, time, m.count + 1⟩⟩ := hf
              rcases doL_body hf with ⟨g, hg, e⟩ | ⟨hk, e⟩
              · rw [← e]; exact h2 _ (h.inS g hg)
              · rw [e]
                show m.bodies.length < (m.bodies ++ [b]).length
                rw [List.length_append]
                simp
            · intro x hx hk
              rcases List.mem_append.1 hx with hx | hx
              · exact h2 _ (h.inW x hx hk)
              · simp at hx
                subst hx
                show m.bodies.length < (m.bodies ++ [b]).length
                rw [List.length_append]
                simp
            · intro x hx
              rcases List.mem_append.1 hx with hx | hx
              · exact h.bs x hx
              · simp at hx
                subst hx
                omega
end
end Go.Proofs.YtjglgohchhdkkaaGreatDoor
