/- Two ranges of measures in order merged (slices.symMergeCmpFunc). -/
import Derived.Test.YtkkcphjielkmoaaSymL
import Derived.Test.YtkkcphjielkmoaaSymR
set_option linter.unusedSimpArgs false
set_option linter.unusedVariables false
namespace Go.Proofs.Ytkkcphjielkmoaa
open Go Go.RowKit

/-- What the merge of ranges no longer than s does. -/
def SymOk (g n cap s : Nat) : Prop := ∀ (a m b : Nat) (A M B : Int) (d : Nat → Nat) (w : World), A = a → M = m → B = b → Fr w g n d → (∀ x, x < n → d x < 18446744073709551616) → a < m → m < b → b ≤ n → b - a ≤ s → Srt rk d a m → Srt rk d m b →
    Calls Try.prog 34 #[.slice (some ⟨g, 0, none⟩) n cap, .int .i64 A, .int .i64 M, .int .i64 B, .func (.func 22) #[] #[]] w fun e w' => e = .returned (.tuple #[]) ∧ ∃ d', Fr w' g n d' ∧ PI a b d d' ∧ Srt rk d' a b ∧ Kp g w w'
theorem rot_z (g n cap a m b : Nat) (A M B : Int) (hA : A = a) (hM : M = m) (hB : B = b) (d : Nat → Nat) (w : World) (fv : Value) (hF : Fr w g n d) (ham : a < m) (hmb : m < b) (hb : b ≤ n) (hn : n < 100000000) :
    Calls Try.prog 35 #[.slice (some ⟨g, 0, none⟩) n cap, .int .i64 A, .int .i64 M, .int .i64 B, fv] w fun e w' => e = .returned (.tuple #[]) ∧ Fr w' g n (Rot d a m b) ∧ PI a b d (Rot d a m b) ∧ Kp g w w' := by
  subst hA hM hB
  exact rot_any g n cap a m b d w fv hF ham hmb hb hn
/-- What the search for the merge's middle has found. -/
structure Mid (d : Nat → Nat) (a m b mid s0 r0 s r : Nat) : Prop where
  lo : s0 ≤ s
  le : s ≤ r
  hi : r ≤ r0
  c1 : ∀ c, s0 ≤ c → c < s → rk (d c) ≤ rk (d (mid + m - 1 - c))
  c2 : ∀ c, r ≤ c → c < r0 → rk (d (mid + m - 1 - c)) < rk (d c)
theorem Mid.up {d : Nat → Nat} {a m b mid s0 r0 s r c : Nat} (h : Mid d a m b mid s0 r0 s r) (h1 : Srt rk d a m) (h2 : Srt rk d m b) (b1 : a ≤ s0) (b2 : r0 ≤ m) (b3 : r0 ≤ mid) (b4 : mid + m ≤ b + s0) (hc : s ≤ c) (hr : c < r) (g : ¬ rk (d (mid + m - 1 - c)) < rk (d c)) : Mid d a m b mid s0 r0 (c + 1) r :=
  ⟨by have := h.lo; omega, by omega, h.hi, fun x p q => by
    have := h.hi
    have t1 := h1.le x c (by omega) (by omega) (by omega)
    have t2 := h2.le (mid + m - 1 - c) (mid + m - 1 - x) (by omega) (by omega) (by omega)
    omega, h.c2⟩
theorem Mid.down {d : Nat → Nat} {a m b mid s0 r0 s r c : Nat} (h : Mid d a m b mid s0 r0 s r) (h1 : Srt rk d a m) (h2 : Srt rk d m b) (b1 : a ≤ s0) (b2 : r0 ≤ m) (b3 : r0 ≤ mid) (b4 : mid + m ≤ b + s0) (hc : s ≤ c) (hr : c < r) (g : rk (d (mid + m - 1 - c)) < rk (d c)) : Mid d a m b mid s0 r0 s c :=
  ⟨h.lo, hc, by have := h.hi; omega, h.c1, fun x p q => by
    have := h.lo
    have t1 := h1.le c x (by omega) p (by omega)
    have t2 := h2.le (mid + m - 1 - x) (mid + m - 1 - c) (by omega) (by omega) (by omega)
    omega⟩
/-- What the two smaller merges leave to be said. -/
structure Half (d d1 : Nat → Nat) (a b mid s e : Nat) : Prop where
  pi : PI a b d d1
  l1 : Srt rk d1 a s
  l2 : Srt rk d1 s mid
  r1 : Srt rk d1 mid e
  r2 : Srt rk d1 e b
  cr : ∀ x y, a ≤ x → x < mid → mid ≤ y → y < b → rk (d1 x) ≤ rk (d1 y)
  as_ : a ≤ s
  sm : s ≤ mid
  me : mid ≤ e
  eb : e ≤ b
theorem Half.left {d d1 d2 : Nat → Nat} {a b mid s e : Nat} (h : Half d d1 a b mid s e) (hp : PI a mid d1 d2) (hs : Srt rk d2 a mid) : PI a b d d2 ∧ Srt rk d2 mid e ∧ Srt rk d2 e b ∧ (∀ x y, a ≤ x → x < mid → mid ≤ y → y < b → rk (d2 x) ≤ rk (d2 y)) := by
  have h1 := h.as_
  have h2 := h.sm
  have h3 := h.me
  have h4 := h.eb
  refine ⟨h.pi.trans (hp.mono (Nat.le_refl _) (by omega)), h.r1.congr fun x p q => hp.out x (by omega), h.r2.congr fun x p q => hp.out x (by omega), fun x y p q r t => ?_⟩
  obtain ⟨z, z1, z2, z3⟩ := hp.mem x p q
  rw [z3, hp.out y (by omega)]
  exact h.cr z y z1 z2 r t
theorem cross_right {d2 d3 : Nat → Nat} {a b mid : Nat} (ha : a ≤ mid) (hl : Srt rk d2 a mid) (cr : ∀ x y, a ≤ x → x < mid → mid ≤ y → y < b → rk (d2 x) ≤ rk (d2 y)) (hp : PI mid b d2 d3) (hs : Srt rk d3 mid b) : Srt rk d3 a b := by
  refine Srt.glue (hl.congr fun x p q => hp.out x (by omega)) hs fun x y p q r t => ?_
  obtain ⟨z, z1, z2, z3⟩ := hp.mem y r t
  rw [z3, hp.out x (by omega)]
  exact cr x z p q z1 z2
theorem wr64 (x : Int) (h1 : -4611686018427387904 ≤ x) (h2 : x ≤ 4611686018427387904) : wrap64 x = x := by unfold wrap64; omega
end Go.Proofs.Ytkkcphjielkmoaa
