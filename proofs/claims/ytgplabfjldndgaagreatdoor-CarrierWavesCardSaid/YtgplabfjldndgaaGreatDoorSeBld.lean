/-
  The copy check of a strings.Builder, at this program.
-/
import Derived.Test.YtgplabfjldndgaaGreatDoorSeEnv
import Derived.Lib.Builder
import Derived.WalkKit
import Derived.Laws.Externs
import Derived.Lib.Walk
import Derived.KernelRfl
import Derived.Test.YtgplabfjldndgaaGreatDoorChecked
import Derived.Eval
open Go Go.RowKit
namespace Go.Proofs.YtgplabfjldndgaaGreatDoor
set_option maxRecDepth 100000

theorem bldSize : (Tryz.prog.info? 194).map (·.size) = some 2 := by kernel_rfl
theorem bldLies : liesAt Tryz.prog Tryz.prog.depth 194 (2 / Tryz.prog.cellsOf 194) 0 194 1 = true := by kernel_rfl
theorem t229 : Tryz.prog.underlying 192 = some (.pointer 194) := by kernel_rfl
theorem t275 : Tryz.prog.underlying 241 = some .unsafePointer := by kernel_rfl

set_option maxHeartbeats 1000000 in
theorem bld_used (b : Nat) (w : World) (h0 : w.cell? ⟨b, 0, none⟩ = some (.pointer (some ⟨b, 0, none⟩))) :
    Calls Tryz.prog 162 #[.pointer (some ⟨b, 0, none⟩)] w fun e w' => e = .returned (.tuple #[]) ∧ w' = w := by
  obtain ⟨j, hj, _⟩ := Option.map_eq_some_iff.1 bldSize
  go_enter Tryz.func162, Tryz.ntmps162
  go_wp2
  rw [Lib.run_neq_ptr_same w _ t229 hj]
  go_wp2
  go_end0
  exact ⟨rfl, rfl⟩

set_option maxHeartbeats 1000000 in
theorem bld_fresh (b : Nat) (w : World) (h0 : w.cell? ⟨b, 0, none⟩ = some (.pointer none)) (hsh : w.shape? b = some (194, 2)) (hfz : w.frozen? ⟨b, 0, none⟩ = false) :
    Calls Tryz.prog 162 #[.pointer (some ⟨b, 0, none⟩)] w fun e w' => e = .returned (.tuple #[]) ∧ w' = w.setCell ⟨b, 0, none⟩ (.pointer (some ⟨b, 0, none⟩)) := by
  obtain ⟨j, hj, hjs⟩ := Option.map_eq_some_iff.1 bldSize
  go_enter Tryz.func162, Tryz.ntmps162
  go_wp2
  rw [Lib.run_to_unsafe w ⟨b, 0, none⟩ t229 t275 hj (by rw [hjs]; decide) hsh (Nat.zero_lt_succ 1)]
  simp only [Result.andThen]
  rw [Oper.upon_value]
  go_wp2
  rw [run_callFunc_extern Tryz.func174 (by kernel_rfl) (by kernel_rfl) (by kernel_rfl) (e := Extern.AbiNoEscape.same) (by kernel_rfl)]
  rw [Lib.run_noEscape]
  simp only [Result.andThen]
  rw [Oper.upon_value]
  go_wp2
  rw [Lib.run_from_unsafe w ⟨b, 0, none⟩ t275 t229 hj hsh bldLies]
  simp only [Result.andThen]
  rw [Oper.upon_value]
  go_wp2
  go_end0
  exact ⟨rfl, rfl⟩

theorem noNum : Tryz.prog.funcs.all (fun fn => !(fn.name == "runtime.NumGoroutine")) = true := by kernel_rfl

theorem envOk : Go.Ev.EnvOk E where
  num f fn hf := by
    have h := noNum
    rw [Array.all_eq_true'] at h
    have := h fn (Array.mem_of_getElem? hf)
    simpa using this
  mixed := Checked.mixed Tryz.checked
  used f hf b w h := by
    have : f = 162 := by
      simp only [E, hooks] at hf
      split at hf
      · assumption
      · simp at hf
    subst this
    exact bld_used b w h
  fresh f hf b w h hsh hfz := by
    have : f = 162 := by
      simp only [E, hooks] at hf
      split at hf
      · assumption
      · simp at hf
    subst this
    exact bld_fresh b w h hsh hfz
  join f hf := by
    simp only [E, hooks] at hf
    split at hf <;> simp at hf
end Go.Proofs.YtgplabfjldndgaaGreatDoor
