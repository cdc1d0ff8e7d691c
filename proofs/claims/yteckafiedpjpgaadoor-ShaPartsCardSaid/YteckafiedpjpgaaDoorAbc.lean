/- The digest of "abc" begins ba 78 16 bf: reckoned word by word, round by round. -/
import Derived.Test.YteckafiedpjpgaaDoorPlain
import Derived.KernelRfl
set_option linter.unusedSimpArgs false
set_option linter.unusedVariables false
namespace Go.Proofs.YteckafiedpjpgaaDoor
open Go

def abc : List (BitVec 8) := [97#8, 98#8, 99#8]
/-- The one block of "abc". -/
def abcM (j : Nat) : BitVec 8 := (padl abc).getD j 0#8
theorem abcW0 : W abcM 0 = 1633837952#32 := by rw [W_lo _ _ (by decide)]; kernel_rfl
theorem abcW1 : W abcM 1 = 0#32 := by rw [W_lo _ _ (by decide)]; kernel_rfl
theorem abcW2 : W abcM 2 = 0#32 := by rw [W_lo _ _ (by decide)]; kernel_rfl
theorem abcW3 : W abcM 3 = 0#32 := by rw [W_lo _ _ (by decide)]; kernel_rfl
theorem abcW4 : W abcM 4 = 0#32 := by rw [W_lo _ _ (by decide)]; kernel_rfl
theorem abcW5 : W abcM 5 = 0#32 := by rw [W_lo _ _ (by decide)]; kernel_rfl
theorem abcW6 : W abcM 6 = 0#32 := by rw [W_lo _ _ (by decide)]; kernel_rfl
theorem abcW7 : W abcM 7 = 0#32 := by rw [W_lo _ _ (by decide)]; kernel_rfl
theorem abcW8 : W abcM 8 = 0#32 := by rw [W_lo _ _ (by decide)]; kernel_rfl
theorem abcW9 : W abcM 9 = 0#32 := by rw [W_lo _ _ (by decide)]; kernel_rfl
theorem abcW10 : W abcM 10 = 0#32 := by rw [W_lo _ _ (by decide)]; kernel_rfl
theorem abcW11 : W abcM 11 = 0#32 := by rw [W_lo _ _ (by decide)]; kernel_rfl
theorem abcW12 : W abcM 12 = 0#32 := by rw [W_lo _ _ (by decide)]; kernel_rfl
theorem abcW13 : W abcM 13 = 0#32 := by rw [W_lo _ _ (by decide)]; kernel_rfl
theorem abcW14 : W abcM 14 = 0#32 := by rw [W_lo _ _ (by decide)]; kernel_rfl
theorem abcW15 : W abcM 15 = 24#32 := by rw [W_lo _ _ (by decide)]; kernel_rfl
theorem abcW16 : W abcM 16 = 1633837952#32 := by
  rw [W_hi _ _ (by decide)]
  show s1 (W abcM 14) + W abcM 9 + s0 (W abcM 1) + W abcM 0 = _
  rw [abcW14, abcW9, abcW1, abcW0]
  kernel_rfl
theorem abcW17 : W abcM 17 = 983040#32 := by
  rw [W_hi _ _ (by decide)]
  show s1 (W abcM 15) + W abcM 10 + s0 (W abcM 2) + W abcM 1 = _
  rw [abcW15, abcW10, abcW2, abcW1]
  kernel_rfl
theorem abcW18 : W abcM 18 = 2108187653#32 := by
  rw [W_hi _ _ (by decide)]
  show s1 (W abcM 16) + W abcM 11 + s0 (W abcM 3) + W abcM 2 = _
  rw [abcW16, abcW11, abcW3, abcW2]
  kernel_rfl
theorem abcW19 : W abcM 19 = 1610613702#32 := by
  rw [W_hi _ _ (by decide)]
  show s1 (W abcM 17) + W abcM 12 + s0 (W abcM 4) + W abcM 3 = _
  rw [abcW17, abcW12, abcW4, abcW3]
  kernel_rfl
theorem abcW20 : W abcM 20 = 1050508152#32 := by
  rw [W_hi _ _ (by decide)]
  show s1 (W abcM 18) + W abcM 13 + s0 (W abcM 5) + W abcM 4 = _
  rw [abcW18, abcW13, abcW5, abcW4]
  kernel_rfl
theorem abcW21 : W abcM 21 = 25426944#32 := by
  rw [W_hi _ _ (by decide)]
  show s1 (W abcM 19) + W abcM 14 + s0 (W abcM 6) + W abcM 5 = _
  rw [abcW19, abcW14, abcW6, abcW5]
  kernel_rfl
theorem abcW22 : W abcM 22 = 316456923#32 := by
  rw [W_hi _ _ (by decide)]
  show s1 (W abcM 20) + W abcM 15 + s0 (W abcM 7) + W abcM 6 = _
  rw [abcW20, abcW15, abcW7, abcW6]
  kernel_rfl
theorem abcW23 : W abcM 23 = 3806512014#32 := by
  rw [W_hi _ _ (by decide)]
  show s1 (W abcM 21) + W abcM 16 + s0 (W abcM 8) + W abcM 7 = _
  rw [abcW21, abcW16, abcW8, abcW7]
  kernel_rfl
theorem abcW24 : W abcM 24 = 3357629466#32 := by
  rw [W_hi _ _ (by decide)]
  show s1 (W abcM 22) + W abcM 17 + s0 (W abcM 9) + W abcM 8 = _
  rw [abcW22, abcW17, abcW9, abcW8]
  kernel_rfl
theorem abcW25 : W abcM 25 = 3073800610#32 := by
  rw [W_hi _ _ (by decide)]
  show s1 (W abcM 23) + W abcM 18 + s0 (W abcM 10) + W abcM 9 = _
  rw [abcW23, abcW18, abcW10, abcW9]
  kernel_rfl
theorem abcW26 : W abcM 26 = 3854317833#32 := by
  rw [W_hi _ _ (by decide)]
  show s1 (W abcM 24) + W abcM 19 + s0 (W abcM 11) + W abcM 10 = _
  rw [abcW24, abcW19, abcW11, abcW10]
  kernel_rfl
theorem abcW27 : W abcM 27 = 845560923#32 := by
  rw [W_hi _ _ (by decide)]
  show s1 (W abcM 25) + W abcM 20 + s0 (W abcM 12) + W abcM 11 = _
  rw [abcW25, abcW20, abcW12, abcW11]
  kernel_rfl
theorem abcW28 : W abcM 28 = 2636160359#32 := by
  rw [W_hi _ _ (by decide)]
  show s1 (W abcM 26) + W abcM 21 + s0 (W abcM 13) + W abcM 12 = _
  rw [abcW26, abcW21, abcW13, abcW12]
  kernel_rfl
theorem abcW29 : W abcM 29 = 3968280267#32 := by
  rw [W_hi _ _ (by decide)]
  show s1 (W abcM 27) + W abcM 22 + s0 (W abcM 14) + W abcM 13 = _
  rw [abcW27, abcW22, abcW14, abcW13]
  kernel_rfl
theorem abcW30 : W abcM 30 = 1881225380#32 := by
  rw [W_hi _ _ (by decide)]
  show s1 (W abcM 28) + W abcM 23 + s0 (W abcM 15) + W abcM 14 = _
  rw [abcW28, abcW23, abcW15, abcW14]
  kernel_rfl
theorem abcW31 : W abcM 31 = 3552024379#32 := by
  rw [W_hi _ _ (by decide)]
  show s1 (W abcM 29) + W abcM 24 + s0 (W abcM 16) + W abcM 15 = _
  rw [abcW29, abcW24, abcW16, abcW15]
  kernel_rfl
theorem abcW32 : W abcM 32 = 2482346367#32 := by
  rw [W_hi _ _ (by decide)]
  show s1 (W abcM 30) + W abcM 25 + s0 (W abcM 17) + W abcM 16 = _
  rw [abcW30, abcW25, abcW17, abcW16]
  kernel_rfl
theorem abcW33 : W abcM 33 = 996719219#32 := by
  rw [W_hi _ _ (by decide)]
  show s1 (W abcM 31) + W abcM 26 + s0 (W abcM 18) + W abcM 17 = _
  rw [abcW31, abcW26, abcW18, abcW17]
  kernel_rfl
theorem abcW34 : W abcM 34 = 2952069057#32 := by
  rw [W_hi _ _ (by decide)]
  show s1 (W abcM 32) + W abcM 27 + s0 (W abcM 19) + W abcM 18 = _
  rw [abcW32, abcW27, abcW19, abcW18]
  kernel_rfl
theorem abcW35 : W abcM 35 = 4043988066#32 := by
  rw [W_hi _ _ (by decide)]
  show s1 (W abcM 33) + W abcM 28 + s0 (W abcM 20) + W abcM 19 = _
  rw [abcW33, abcW28, abcW20, abcW19]
  kernel_rfl
theorem abcW36 : W abcM 36 = 176896406#32 := by
  rw [W_hi _ _ (by decide)]
  show s1 (W abcM 34) + W abcM 29 + s0 (W abcM 21) + W abcM 20 = _
  rw [abcW34, abcW29, abcW21, abcW20]
  kernel_rfl
theorem abcW37 : W abcM 37 = 1924104970#32 := by
  rw [W_hi _ _ (by decide)]
  show s1 (W abcM 35) + W abcM 30 + s0 (W abcM 22) + W abcM 21 = _
  rw [abcW35, abcW30, abcW22, abcW21]
  kernel_rfl
theorem abcW38 : W abcM 38 = 2483675966#32 := by
  rw [W_hi _ _ (by decide)]
  show s1 (W abcM 36) + W abcM 31 + s0 (W abcM 23) + W abcM 22 = _
  rw [abcW36, abcW31, abcW23, abcW22]
  kernel_rfl
theorem abcW39 : W abcM 39 = 610538786#32 := by
  rw [W_hi _ _ (by decide)]
  show s1 (W abcM 37) + W abcM 32 + s0 (W abcM 24) + W abcM 23 = _
  rw [abcW37, abcW32, abcW24, abcW23]
  kernel_rfl
theorem abcW40 : W abcM 40 = 2672279444#32 := by
  rw [W_hi _ _ (by decide)]
  show s1 (W abcM 38) + W abcM 33 + s0 (W abcM 25) + W abcM 24 = _
  rw [abcW38, abcW33, abcW25, abcW24]
  kernel_rfl
theorem abcW41 : W abcM 41 = 4037431130#32 := by
  rw [W_hi _ _ (by decide)]
  show s1 (W abcM 39) + W abcM 34 + s0 (W abcM 26) + W abcM 25 = _
  rw [abcW39, abcW34, abcW26, abcW25]
  kernel_rfl
theorem abcW42 : W abcM 42 = 1042573945#32 := by
  rw [W_hi _ _ (by decide)]
  show s1 (W abcM 40) + W abcM 35 + s0 (W abcM 27) + W abcM 26 = _
  rw [abcW40, abcW35, abcW27, abcW26]
  kernel_rfl
theorem abcW43 : W abcM 43 = 657669027#32 := by
  rw [W_hi _ _ (by decide)]
  show s1 (W abcM 41) + W abcM 36 + s0 (W abcM 28) + W abcM 27 = _
  rw [abcW41, abcW36, abcW28, abcW27]
  kernel_rfl
theorem abcW44 : W abcM 44 = 206005234#32 := by
  rw [W_hi _ _ (by decide)]
  show s1 (W abcM 42) + W abcM 37 + s0 (W abcM 29) + W abcM 28 = _
  rw [abcW42, abcW37, abcW29, abcW28]
  kernel_rfl
theorem abcW45 : W abcM 45 = 2215296807#32 := by
  rw [W_hi _ _ (by decide)]
  show s1 (W abcM 43) + W abcM 38 + s0 (W abcM 30) + W abcM 29 = _
  rw [abcW43, abcW38, abcW30, abcW29]
  kernel_rfl
theorem abcW46 : W abcM 46 = 2049510749#32 := by
  rw [W_hi _ _ (by decide)]
  show s1 (W abcM 44) + W abcM 39 + s0 (W abcM 31) + W abcM 30 = _
  rw [abcW44, abcW39, abcW31, abcW30]
  kernel_rfl
theorem abcW47 : W abcM 47 = 106709978#32 := by
  rw [W_hi _ _ (by decide)]
  show s1 (W abcM 45) + W abcM 40 + s0 (W abcM 32) + W abcM 31 = _
  rw [abcW45, abcW40, abcW32, abcW31]
  kernel_rfl
theorem abcW48 : W abcM 48 = 4215179723#32 := by
  rw [W_hi _ _ (by decide)]
  show s1 (W abcM 46) + W abcM 41 + s0 (W abcM 33) + W abcM 32 = _
  rw [abcW46, abcW41, abcW33, abcW32]
  kernel_rfl
theorem abcW49 : W abcM 49 = 3430291419#32 := by
  rw [W_hi _ _ (by decide)]
  show s1 (W abcM 47) + W abcM 42 + s0 (W abcM 34) + W abcM 33 = _
  rw [abcW47, abcW42, abcW34, abcW33]
  kernel_rfl
theorem abcW50 : W abcM 50 = 3118885940#32 := by
  rw [W_hi _ _ (by decide)]
  show s1 (W abcM 48) + W abcM 43 + s0 (W abcM 35) + W abcM 34 = _
  rw [abcW48, abcW43, abcW35, abcW34]
  kernel_rfl
theorem abcW51 : W abcM 51 = 2845390439#32 := by
  rw [W_hi _ _ (by decide)]
  show s1 (W abcM 49) + W abcM 44 + s0 (W abcM 36) + W abcM 35 = _
  rw [abcW49, abcW44, abcW36, abcW35]
  kernel_rfl
theorem abcW52 : W abcM 52 = 2226839261#32 := by
  rw [W_hi _ _ (by decide)]
  show s1 (W abcM 50) + W abcM 45 + s0 (W abcM 37) + W abcM 36 = _
  rw [abcW50, abcW45, abcW37, abcW36]
  kernel_rfl
theorem abcW53 : W abcM 53 = 3256115900#32 := by
  rw [W_hi _ _ (by decide)]
  show s1 (W abcM 51) + W abcM 46 + s0 (W abcM 38) + W abcM 37 = _
  rw [abcW51, abcW46, abcW38, abcW37]
  kernel_rfl
theorem abcW54 : W abcM 54 = 344409900#32 := by
  rw [W_hi _ _ (by decide)]
  show s1 (W abcM 52) + W abcM 47 + s0 (W abcM 39) + W abcM 38 = _
  rw [abcW52, abcW47, abcW39, abcW38]
  kernel_rfl
theorem abcW55 : W abcM 55 = 2987358873#32 := by
  rw [W_hi _ _ (by decide)]
  show s1 (W abcM 53) + W abcM 48 + s0 (W abcM 40) + W abcM 39 = _
  rw [abcW53, abcW48, abcW40, abcW39]
  kernel_rfl
theorem abcW56 : W abcM 56 = 4015503821#32 := by
  rw [W_hi _ _ (by decide)]
  show s1 (W abcM 54) + W abcM 49 + s0 (W abcM 41) + W abcM 40 = _
  rw [abcW54, abcW49, abcW41, abcW40]
  kernel_rfl
theorem abcW57 : W abcM 57 = 3957764664#32 := by
  rw [W_hi _ _ (by decide)]
  show s1 (W abcM 55) + W abcM 50 + s0 (W abcM 42) + W abcM 41 = _
  rw [abcW55, abcW50, abcW42, abcW41]
  kernel_rfl
theorem abcW58 : W abcM 58 = 2682456414#32 := by
  rw [W_hi _ _ (by decide)]
  show s1 (W abcM 56) + W abcM 51 + s0 (W abcM 43) + W abcM 42 = _
  rw [abcW56, abcW51, abcW43, abcW42]
  kernel_rfl
theorem abcW59 : W abcM 59 = 2025622859#32 := by
  rw [W_hi _ _ (by decide)]
  show s1 (W abcM 57) + W abcM 52 + s0 (W abcM 44) + W abcM 43 = _
  rw [abcW57, abcW52, abcW44, abcW43]
  kernel_rfl
theorem abcW60 : W abcM 60 = 2755645205#32 := by
  rw [W_hi _ _ (by decide)]
  show s1 (W abcM 58) + W abcM 53 + s0 (W abcM 45) + W abcM 44 = _
  rw [abcW58, abcW53, abcW45, abcW44]
  kernel_rfl
theorem abcW61 : W abcM 61 = 1720397816#32 := by
  rw [W_hi _ _ (by decide)]
  show s1 (W abcM 59) + W abcM 54 + s0 (W abcM 46) + W abcM 45 = _
  rw [abcW59, abcW54, abcW46, abcW45]
  kernel_rfl
theorem abcW62 : W abcM 62 = 4004225740#32 := by
  rw [W_hi _ _ (by decide)]
  show s1 (W abcM 60) + W abcM 55 + s0 (W abcM 47) + W abcM 46 = _
  rw [abcW60, abcW55, abcW47, abcW46]
  kernel_rfl
theorem abcW63 : W abcM 63 = 313650667#32 := by
  rw [W_hi _ _ (by decide)]
  show s1 (W abcM 61) + W abcM 56 + s0 (W abcM 48) + W abcM 47 = _
  rw [abcW61, abcW56, abcW48, abcW47]
  kernel_rfl
theorem abcR0 : rnds abcM H0 0 = ⟨1779033703#32, 3144134277#32, 1013904242#32, 2773480762#32, 1359893119#32, 2600822924#32, 528734635#32, 1541459225#32⟩ := rfl
theorem abcR1 : rnds abcM H0 1 = ⟨1567288269#32, 1779033703#32, 3144134277#32, 1013904242#32, 4197074466#32, 1359893119#32, 2600822924#32, 528734635#32⟩ := by
  rw [rnds, abcR0, abcW0]
  kernel_rfl
theorem abcR2 : rnds abcM H0 2 = ⟨1516951981#32, 1567288269#32, 1779033703#32, 3144134277#32, 2026797449#32, 4197074466#32, 1359893119#32, 2600822924#32⟩ := by
  rw [rnds, abcR1, abcW1]
  kernel_rfl
theorem abcR3 : rnds abcM H0 3 = ⟨3368241063#32, 1516951981#32, 1567288269#32, 1779033703#32, 4180228587#32, 2026797449#32, 4197074466#32, 1359893119#32⟩ := by
  rw [rnds, abcR2, abcW2]
  kernel_rfl
theorem abcR4 : rnds abcM H0 4 = ⟨3578852966#32, 3368241063#32, 1516951981#32, 1567288269#32, 618661968#32, 4180228587#32, 2026797449#32, 4197074466#32⟩ := by
  rw [rnds, abcR3, abcW3]
  kernel_rfl
theorem abcR5 : rnds abcM H0 5 = ⟨71342698#32, 3578852966#32, 3368241063#32, 1516951981#32, 1135452741#32, 618661968#32, 4180228587#32, 2026797449#32⟩ := by
  rw [rnds, abcR4, abcW4]
  kernel_rfl
theorem abcR6 : rnds abcM H0 6 = ⟨725748213#32, 71342698#32, 3578852966#32, 3368241063#32, 1900175533#32, 1135452741#32, 618661968#32, 4180228587#32⟩ := by
  rw [rnds, abcR5, abcW5]
  kernel_rfl
theorem abcR7 : rnds abcM H0 7 = ⟨3842179968#32, 725748213#32, 71342698#32, 3578852966#32, 2603066369#32, 1900175533#32, 1135452741#32, 618661968#32⟩ := by
  rw [rnds, abcR6, abcW6]
  kernel_rfl
theorem abcR8 : rnds abcM H0 8 = ⟨2241887071#32, 3842179968#32, 725748213#32, 71342698#32, 207977081#32, 2603066369#32, 1900175533#32, 1135452741#32⟩ := by
  rw [rnds, abcR7, abcW7]
  kernel_rfl
theorem abcR9 : rnds abcM H0 9 = ⟨2382687417#32, 2241887071#32, 3842179968#32, 725748213#32, 852110732#32, 207977081#32, 2603066369#32, 1900175533#32⟩ := by
  rw [rnds, abcR8, abcW8]
  kernel_rfl
theorem abcR10 : rnds abcM H0 10 = ⟨2357671019#32, 2382687417#32, 2241887071#32, 3842179968#32, 482944406#32, 852110732#32, 207977081#32, 2603066369#32⟩ := by
  rw [rnds, abcR9, abcW9]
  kernel_rfl
theorem abcR11 : rnds abcM H0 11 = ⟨1201185780#32, 2357671019#32, 2382687417#32, 2241887071#32, 1131095016#32, 482944406#32, 852110732#32, 207977081#32⟩ := by
  rw [rnds, abcR10, abcW10]
  kernel_rfl
theorem abcR12 : rnds abcM H0 12 = ⟨4146054569#32, 1201185780#32, 2357671019#32, 2382687417#32, 2171590377#32, 1131095016#32, 482944406#32, 852110732#32⟩ := by
  rw [rnds, abcR11, abcW11]
  kernel_rfl
theorem abcR13 : rnds abcM H0 13 = ⟨2274437520#32, 4146054569#32, 1201185780#32, 2357671019#32, 509051416#32, 2171590377#32, 1131095016#32, 482944406#32⟩ := by
  rw [rnds, abcR12, abcW12]
  kernel_rfl
theorem abcR14 : rnds abcM H0 14 = ⟨3643992854#32, 2274437520#32, 4146054569#32, 1201185780#32, 1952073950#32, 509051416#32, 2171590377#32, 1131095016#32⟩ := by
  rw [rnds, abcR13, abcW13]
  kernel_rfl
theorem abcR15 : rnds abcM H0 15 = ⟨3227803614#32, 3643992854#32, 2274437520#32, 4146054569#32, 194179596#32, 1952073950#32, 509051416#32, 2171590377#32⟩ := by
  rw [rnds, abcR14, abcW14]
  kernel_rfl
theorem abcR16 : rnds abcM H0 16 = ⟨2969183118#32, 3227803614#32, 3643992854#32, 2274437520#32, 123276749#32, 194179596#32, 1952073950#32, 509051416#32⟩ := by
  rw [rnds, abcR15, abcW15]
  kernel_rfl
theorem abcR17 : rnds abcM H0 17 = ⟨567974555#32, 2969183118#32, 3227803614#32, 3643992854#32, 2150900380#32, 123276749#32, 194179596#32, 1952073950#32⟩ := by
  rw [rnds, abcR16, abcW16]
  kernel_rfl
theorem abcR18 : rnds abcM H0 18 = ⟨3271285201#32, 567974555#32, 2969183118#32, 3227803614#32, 2221859924#32, 2150900380#32, 123276749#32, 194179596#32⟩ := by
  rw [rnds, abcR17, abcW17]
  kernel_rfl
theorem abcR19 : rnds abcM H0 19 = ⟨4269243327#32, 3271285201#32, 567974555#32, 2969183118#32, 3431569761#32, 2221859924#32, 2150900380#32, 123276749#32⟩ := by
  rw [rnds, abcR18, abcW18]
  kernel_rfl
theorem abcR20 : rnds abcM H0 20 = ⟨3790736435#32, 4269243327#32, 3271285201#32, 567974555#32, 2959311225#32, 3431569761#32, 2221859924#32, 2150900380#32⟩ := by
  rw [rnds, abcR19, abcW19]
  kernel_rfl
theorem abcR21 : rnds abcM H0 21 = ⟨2647034723#32, 3790736435#32, 4269243327#32, 3271285201#32, 2329577776#32, 2959311225#32, 3431569761#32, 2221859924#32⟩ := by
  rw [rnds, abcR20, abcW20]
  kernel_rfl
theorem abcR22 : rnds abcM H0 22 = ⟨3261099373#32, 2647034723#32, 3790736435#32, 4269243327#32, 3777329520#32, 2329577776#32, 2959311225#32, 3431569761#32⟩ := by
  rw [rnds, abcR21, abcW21]
  kernel_rfl
theorem abcR23 : rnds abcM H0 23 = ⟨2812502591#32, 3261099373#32, 2647034723#32, 3790736435#32, 1240797514#32, 3777329520#32, 2329577776#32, 2959311225#32⟩ := by
  rw [rnds, abcR22, abcW22]
  kernel_rfl
theorem abcR24 : rnds abcM H0 24 = ⟨3319086477#32, 2812502591#32, 3261099373#32, 2647034723#32, 2856829767#32, 1240797514#32, 3777329520#32, 2329577776#32⟩ := by
  rw [rnds, abcR23, abcW23]
  kernel_rfl
theorem abcR25 : rnds abcM H0 25 = ⟨472655928#32, 3319086477#32, 2812502591#32, 3261099373#32, 673443729#32, 2856829767#32, 1240797514#32, 3777329520#32⟩ := by
  rw [rnds, abcR24, abcW24]
  kernel_rfl
theorem abcR26 : rnds abcM H0 26 = ⟨3454534525#32, 472655928#32, 3319086477#32, 2812502591#32, 339230094#32, 673443729#32, 2856829767#32, 1240797514#32⟩ := by
  rw [rnds, abcR25, abcW25]
  kernel_rfl
theorem abcR27 : rnds abcM H0 27 = ⟨3056518332#32, 3454534525#32, 472655928#32, 3319086477#32, 3343672598#32, 339230094#32, 673443729#32, 2856829767#32⟩ := by
  rw [rnds, abcR26, abcW26]
  kernel_rfl
theorem abcR28 : rnds abcM H0 28 = ⟨2010346792#32, 3056518332#32, 3454534525#32, 472655928#32, 3992961016#32, 3343672598#32, 339230094#32, 673443729#32⟩ := by
  rw [rnds, abcR27, abcW27]
  kernel_rfl
theorem abcR29 : rnds abcM H0 29 = ⟨909411017#32, 2010346792#32, 3056518332#32, 3454534525#32, 1628611511#32, 3992961016#32, 3343672598#32, 339230094#32⟩ := by
  rw [rnds, abcR28, abcW28]
  kernel_rfl
theorem abcR30 : rnds abcM H0 30 = ⟨2684750640#32, 909411017#32, 2010346792#32, 3056518332#32, 2917635127#32, 1628611511#32, 3992961016#32, 3343672598#32⟩ := by
  rw [rnds, abcR29, abcW29]
  kernel_rfl
theorem abcR31 : rnds abcM H0 31 = ⟨3935906338#32, 2684750640#32, 909411017#32, 2010346792#32, 17410874#32, 2917635127#32, 1628611511#32, 3992961016#32⟩ := by
  rw [rnds, abcR30, abcW30]
  kernel_rfl
theorem abcR32 : rnds abcM H0 32 = ⟨1941126133#32, 3935906338#32, 2684750640#32, 909411017#32, 3126399250#32, 17410874#32, 2917635127#32, 1628611511#32⟩ := by
  rw [rnds, abcR31, abcW31]
  kernel_rfl
theorem abcR33 : rnds abcM H0 33 = ⟨2564891911#32, 1941126133#32, 3935906338#32, 2684750640#32, 2631529974#32, 3126399250#32, 17410874#32, 2917635127#32⟩ := by
  rw [rnds, abcR32, abcW32]
  kernel_rfl
theorem abcR34 : rnds abcM H0 34 = ⟨4267724277#32, 2564891911#32, 1941126133#32, 3935906338#32, 1495571923#32, 2631529974#32, 3126399250#32, 17410874#32⟩ := by
  rw [rnds, abcR33, abcW33]
  kernel_rfl
theorem abcR35 : rnds abcM H0 35 = ⟨2846323596#32, 4267724277#32, 2564891911#32, 1941126133#32, 140458035#32, 1495571923#32, 2631529974#32, 3126399250#32⟩ := by
  rw [rnds, abcR34, abcW34]
  kernel_rfl
theorem abcR36 : rnds abcM H0 36 = ⟨1705037796#32, 2846323596#32, 4267724277#32, 2564891911#32, 4105175766#32, 140458035#32, 1495571923#32, 2631529974#32⟩ := by
  rw [rnds, abcR35, abcW35]
  kernel_rfl
theorem abcR37 : rnds abcM H0 37 = ⟨1101421745#32, 1705037796#32, 2846323596#32, 4267724277#32, 124953195#32, 4105175766#32, 140458035#32, 1495571923#32⟩ := by
  rw [rnds, abcR36, abcW36]
  kernel_rfl
theorem abcR38 : rnds abcM H0 38 = ⟨887035396#32, 1101421745#32, 1705037796#32, 2846323596#32, 2768741693#32, 124953195#32, 4105175766#32, 140458035#32⟩ := by
  rw [rnds, abcR37, abcW37]
  kernel_rfl
theorem abcR39 : rnds abcM H0 39 = ⟨1841658506#32, 887035396#32, 1101421745#32, 1705037796#32, 4034403272#32, 2768741693#32, 124953195#32, 4105175766#32⟩ := by
  rw [rnds, abcR38, abcW38]
  kernel_rfl
theorem abcR40 : rnds abcM H0 40 = ⟨2045405306#32, 1841658506#32, 887035396#32, 1101421745#32, 519815328#32, 4034403272#32, 2768741693#32, 124953195#32⟩ := by
  rw [rnds, abcR39, abcW39]
  kernel_rfl
theorem abcR41 : rnds abcM H0 41 = ⟨3597076326#32, 2045405306#32, 1841658506#32, 887035396#32, 641019235#32, 519815328#32, 4034403272#32, 2768741693#32⟩ := by
  rw [rnds, abcR40, abcW40]
  kernel_rfl
theorem abcR42 : rnds abcM H0 42 = ⟨3745932591#32, 3597076326#32, 2045405306#32, 1841658506#32, 2206934801#32, 641019235#32, 519815328#32, 4034403272#32⟩ := by
  rw [rnds, abcR41, abcW41]
  kernel_rfl
theorem abcR43 : rnds abcM H0 43 = ⟨397020670#32, 3745932591#32, 3597076326#32, 2045405306#32, 3737995029#32, 2206934801#32, 641019235#32, 519815328#32⟩ := by
  rw [rnds, abcR42, abcW42]
  kernel_rfl
theorem abcR44 : rnds abcM H0 44 = ⟨2638983059#32, 397020670#32, 3745932591#32, 3597076326#32, 4255271982#32, 3737995029#32, 2206934801#32, 641019235#32⟩ := by
  rw [rnds, abcR43, abcW43]
  kernel_rfl
theorem abcR45 : rnds abcM H0 45 = ⟨643991573#32, 2638983059#32, 397020670#32, 3745932591#32, 2819559920#32, 4255271982#32, 3737995029#32, 2206934801#32⟩ := by
  rw [rnds, abcR44, abcW44]
  kernel_rfl
theorem abcR46 : rnds abcM H0 46 = ⟨1923828625#32, 643991573#32, 2638983059#32, 397020670#32, 3077922209#32, 2819559920#32, 4255271982#32, 3737995029#32⟩ := by
  rw [rnds, abcR45, abcW45]
  kernel_rfl
theorem abcR47 : rnds abcM H0 47 = ⟨2706117808#32, 1923828625#32, 643991573#32, 2638983059#32, 3581645993#32, 3077922209#32, 2819559920#32, 4255271982#32⟩ := by
  rw [rnds, abcR46, abcW46]
  kernel_rfl
theorem abcR48 : rnds abcM H0 48 = ⟨1098003085#32, 2706117808#32, 1923828625#32, 643991573#32, 4274981830#32, 3581645993#32, 3077922209#32, 2819559920#32⟩ := by
  rw [rnds, abcR47, abcW47]
  kernel_rfl
theorem abcR49 : rnds abcM H0 49 = ⟨91585771#32, 1098003085#32, 2706117808#32, 1923828625#32, 3178315832#32, 4274981830#32, 3581645993#32, 3077922209#32⟩ := by
  rw [rnds, abcR48, abcW48]
  kernel_rfl
theorem abcR50 : rnds abcM H0 50 = ⟨4045142696#32, 91585771#32, 1098003085#32, 2706117808#32, 1851537676#32, 3178315832#32, 4274981830#32, 3581645993#32⟩ := by
  rw [rnds, abcR49, abcW49]
  kernel_rfl
theorem abcR51 : rnds abcM H0 51 = ⟨2047150241#32, 4045142696#32, 91585771#32, 1098003085#32, 1391578359#32, 1851537676#32, 3178315832#32, 4274981830#32⟩ := by
  rw [rnds, abcR50, abcW50]
  kernel_rfl
theorem abcR52 : rnds abcM H0 52 = ⟨2288941602#32, 2047150241#32, 4045142696#32, 91585771#32, 1227037726#32, 1391578359#32, 1851537676#32, 3178315832#32⟩ := by
  rw [rnds, abcR51, abcW51]
  kernel_rfl
theorem abcR53 : rnds abcM H0 53 = ⟨270520975#32, 2288941602#32, 2047150241#32, 4045142696#32, 1386118400#32, 1227037726#32, 1391578359#32, 1851537676#32⟩ := by
  rw [rnds, abcR52, abcW52]
  kernel_rfl
theorem abcR54 : rnds abcM H0 54 = ⟨4117770203#32, 270520975#32, 2288941602#32, 2047150241#32, 2672265155#32, 1386118400#32, 1227037726#32, 1391578359#32⟩ := by
  rw [rnds, abcR53, abcW53]
  kernel_rfl
theorem abcR55 : rnds abcM H0 55 = ⟨1053056219#32, 4117770203#32, 270520975#32, 2288941602#32, 3842906959#32, 2672265155#32, 1386118400#32, 1227037726#32⟩ := by
  rw [rnds, abcR54, abcW54]
  kernel_rfl
theorem abcR56 : rnds abcM H0 56 = ⟨952932627#32, 1053056219#32, 4117770203#32, 270520975#32, 1422599787#32, 3842906959#32, 2672265155#32, 1386118400#32⟩ := by
  rw [rnds, abcR55, abcW55]
  kernel_rfl
theorem abcR57 : rnds abcM H0 57 = ⟨4241590395#32, 952932627#32, 1053056219#32, 4117770203#32, 2606665836#32, 1422599787#32, 3842906959#32, 2672265155#32⟩ := by
  rw [rnds, abcR56, abcW56]
  kernel_rfl
theorem abcR58 : rnds abcM H0 58 = ⟨3227702383#32, 4241590395#32, 952932627#32, 1053056219#32, 2118385806#32, 2606665836#32, 1422599787#32, 3842906959#32⟩ := by
  rw [rnds, abcR57, abcW57]
  kernel_rfl
theorem abcR59 : rnds abcM H0 59 = ⟨4290184306#32, 3227702383#32, 4241590395#32, 952932627#32, 1837350854#32, 2118385806#32, 2606665836#32, 1422599787#32⟩ := by
  rw [rnds, abcR58, abcW58]
  kernel_rfl
theorem abcR60 : rnds abcM H0 60 = ⟨3064893439#32, 4290184306#32, 3227702383#32, 4241590395#32, 2988158269#32, 1837350854#32, 2118385806#32, 2606665836#32⟩ := by
  rw [rnds, abcR59, abcW59]
  kernel_rfl
theorem abcR61 : rnds abcM H0 61 = ⟨3093179625#32, 3064893439#32, 4290184306#32, 3227702383#32, 2518632596#32, 2988158269#32, 1837350854#32, 2118385806#32⟩ := by
  rw [rnds, abcR60, abcW60]
  kernel_rfl
theorem abcR62 : rnds abcM H0 62 = ⟨80891244#32, 3093179625#32, 3064893439#32, 4290184306#32, 2492278198#32, 2518632596#32, 2988158269#32, 1837350854#32⟩ := by
  rw [rnds, abcR61, abcW61]
  kernel_rfl
theorem abcR63 : rnds abcM H0 63 = ⟨3550093669#32, 80891244#32, 3093179625#32, 3064893439#32, 4212265488#32, 2492278198#32, 2518632596#32, 2988158269#32⟩ := by
  rw [rnds, abcR62, abcW62]
  kernel_rfl
theorem abcR64 : rnds abcM H0 64 = ⟨1349398616#32, 3550093669#32, 80891244#32, 3093179625#32, 1593118500#32, 4212265488#32, 2492278198#32, 2518632596#32⟩ := by
  rw [rnds, abcR63, abcW63]
  kernel_rfl
theorem abc_comp : comp H0 abcM = ⟨3128432319#32, 2399260650#32, 1094795486#32, 1571693091#32, 2953011619#32, 2518121116#32, 3021012833#32, 4060091821#32⟩ := by
  rw [comp, abcR64]
  kernel_rfl
theorem dg_abc (i : Nat) : dg abc i = dgB ⟨3128432319#32, 2399260650#32, 1094795486#32, 1571693091#32, 2953011619#32, 2518121116#32, 3021012833#32, 4060091821#32⟩ i := by
  have h1 : (padl abc).length / 64 = 1 := by rw [padl_length]; decide
  unfold dg
  rw [h1, hB, hB, ← abc_comp]
  congr 2
  funext j
  rw [Nat.mul_zero, Nat.zero_add, abcM]
theorem abc0 : dg abc 0 = 186#8 := by rw [dg_abc]; kernel_rfl
theorem abc1 : dg abc 1 = 120#8 := by rw [dg_abc]; kernel_rfl
theorem abc2 : dg abc 2 = 22#8 := by rw [dg_abc]; kernel_rfl
theorem abc3 : dg abc 3 = 191#8 := by rw [dg_abc]; kernel_rfl
end Go.Proofs.YteckafiedpjpgaaDoor
