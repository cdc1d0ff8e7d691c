/- Files as the entries of a map. -/
import Derived.Test.YtjglgohchhdkkaaDoorMapR8
import Derived.Test.YtjglgohchhdkkaaDoorDkp8
set_option linter.unusedSimpArgs false
set_option linter.unusedVariables false
namespace Go.Proofs.YtjglgohchhdkkaaDoor
open Go Go.RowKit

/-- Where bytes lie. -/
structure Hn where
  q : Option Addr
  n : Nat
  c : Nat
/-- A file as a value: its stamp and where its bytes lie. -/
def fileC (sl : Nat → Hn) (f : Fl) : Array Value := #[.int .i64 f.size, .int .i64 f.time, .int .i64 f.chg, .slice (sl f.body).q (sl f.body).n (sl f.body).c]
def fileV (sl : Nat → Hn) (f : Fl) : Value := .agg (fileC sl f)
def entV (sl : Nat → Hn) (f : Fl) : S8 × Value := (f.p, fileV sl f)
section
variable (sl : Nat → Hn) (l : List Fl)
theorem findV_ent (p : S8) : findV (l.map (entV sl)) p = (findL l p).map fun i => fileV sl (l.getD i fl0) := by
  induction l with
  | nil => rfl
  | cons x r ih =>
    have e2 : findL (x :: r) p = if x.p == p then some 0 else (findL r p).map (· + 1) := by
      unfold findL
      rw [List.findIdx?_cons]
    have e1 : findV (entV sl x :: r.map (entV sl)) p = if x.p == p then some (fileV sl x) else findV (r.map (entV sl)) p := by
      unfold findV
      rw [List.find?_cons]
      show Option.map _ (match x.p == p with | true => some (entV sl x) | false => _) = _
      cases x.p == p <;> rfl
    rw [List.map_cons, e1, e2]
    by_cases h : (x.p == p) = true
    · rw [if_pos h, if_pos h]
      rfl
    · rw [if_neg h, if_neg h, ih]
      cases findL r p <;> rfl
theorem delV_ent (p : S8) : delV (l.map (entV sl)) p = (withoutL l p false).map (entV sl) := by
  unfold delV withoutL
  rw [List.filter_map]
  refine congrArg (List.map (entV sl)) (List.filter_congr fun f _ => ?_)
  simp [entV]
theorem putV_ent (p : S8) (f : Fl) (hf : f.p = p) : (putV ((l.map (entV sl)).filter fun x => !clashL x.1 p) p (fileV sl f)).Perm ((withoutL l p true ++ [f]).map (entV sl)) := by
  unfold putV
  have e : delV ((l.map (entV sl)).filter fun x => !clashL x.1 p) p = (withoutL l p true).map (entV sl) := by
    unfold delV withoutL
    rw [List.filter_filter, List.filter_map]
    refine congrArg (List.map (entV sl)) (List.filter_congr fun x _ => ?_)
    simp [entV]
  rw [e, List.map_append, List.map_cons, List.map_nil]
  have : entV sl f = (p, fileV sl f) := by unfold entV; rw [hf]
  rw [this]
  exact (List.perm_append_singleton _ _).symm
end
/-- The paths in a list are each there once. -/
def OnceF (l : List Fl) : Prop := (l.map Fl.p).Nodup
theorem MpB.once {w : World} {b : Nat} {sl : Nat → Hn} {l : List Fl} (h : MpB w b (l.map (entV sl))) : OnceF l := by
  have := h.keys
  rw [List.map_map] at this
  exact this
theorem fileV_eq (sl : Nat → Hn) (f : Fl) (p : S8) : fileV sl { f with p := p } = fileV sl f := rfl
/-- The sum of the sizes. -/
def sizeSum (l : List Fl) : Int := (l.map Fl.size).sum
theorem clashes_any_of (l : List Fl) (p but : S8) : clashesL l p but = (l.any fun f => f.p != but && clashL f.p p) := rfl
end Go.Proofs.YtjglgohchhdkkaaDoor
