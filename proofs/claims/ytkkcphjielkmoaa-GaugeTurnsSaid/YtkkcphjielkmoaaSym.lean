/- Two ranges of measures in order merged (slices.symMergeCmpFunc): of any length. -/
import Derived.Test.YtkkcphjielkmoaaSymG1
import Derived.Test.YtkkcphjielkmoaaSymG2
set_option linter.unusedSimpArgs false
set_option linter.unusedVariables false
namespace Go.Proofs.Ytkkcphjielkmoaa
open Go Go.RowKit

theorem sym_any (g n cap : Nat) (hn : n < 100000000) : ∀ s, SymOk g n cap s
  | 0 => fun a m b A M B d w _ _ _ _ _ h1 h2 _ h3 _ _ => by omega
  | s + 1 => fun a m b A M B d w hA hM hB hF hd h1 h2 h3 h4 h5 h6 => by
    subst hA hM hB
    by_cases e1 : m = a + 1
    · exact sym_l g n cap a m b d w hF hd e1 h2 h3 hn h6
    · by_cases e2 : b = m + 1
      · exact sym_r g n cap a m b d w hF hd (by omega) e2 h3 hn h5
      · have ih := sym_any g n cap hn s
        have ih2 : SymOk g n cap (b - a - 1) := (fun a' m' b' A' M' B' d' w' q1 q2 q3 q4 q5 q6 q7 q8 q9 q10 q11 => ih a' m' b' A' M' B' d' w' q1 q2 q3 q4 q5 q6 q7 q8 (by omega) q10 q11)
        by_cases e3 : (a + b) / 2 < m
        · exact sym_g1 g n cap a m b d w ih2 hF hd (by omega) (by omega) h3 hn h5 h6 e3
        · exact sym_g2 g n cap a m b d w ih2 hF hd (by omega) (by omega) h3 hn h5 h6 e3
end Go.Proofs.Ytkkcphjielkmoaa
