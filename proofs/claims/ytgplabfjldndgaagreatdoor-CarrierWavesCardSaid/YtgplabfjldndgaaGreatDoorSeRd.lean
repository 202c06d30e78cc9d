/-
  Floats that came in.
-/
import Derived.Test.YtgplabfjldndgaaGreatDoorSeFb
open Go Go.Ev Go.RowKit Go.WideShapes Go.ChangeShapes
namespace Go.Proofs.YtgplabfjldndgaaGreatDoor
noncomputable section
section
variable {H : Type} {enc : TypeId × Value → H} {P : Program} {W : World}
theorem trod_float {w : World} {base fuel : Nat} {spare : Nat → Bool} {held : Bool} {t : TypeId} {cs : List Value} {x : DataW H × List MemPlace} {k : FloatKind} (ht : P.underlying t = some (.float k)) (h : DataW.trod enc P w base spare held fuel t cs = some x) : ∃ b, cs = [.float k b] ∧ (Lit.float k b).wf = true := by
  cases fuel with
  | zero => simp [DataW.trod] at h
  | succ n =>
    unfold DataW.trod at h
    rw [ht] at h
    split at h <;> simp_all
theorem floats_list : ∀ (cs : List Value), (∀ i, i < cs.length → ∃ b : Nat, b < 2 ^ 32 ∧ cs[i]? = some (.float .f32 b)) → ∃ l : List Nat, l.length = cs.length ∧ (∀ b ∈ l, b < 2 ^ 32) ∧ cs = l.map fun b => Value.float .f32 b
  | [], _ => ⟨[], rfl, by simp, rfl⟩
  | c :: cs, h => by
    obtain ⟨b, hb, h0⟩ := h 0 (by simp)
    obtain ⟨l, h1, h2, h3⟩ := floats_list cs (fun i hi => by simpa using h (i + 1) (by simp; omega))
    simp only [List.getElem?_cons_zero, Option.some.injEq] at h0
    exact ⟨b :: l, by simp [h1], by simpa [hb] using h2, by rw [h0, h3]; rfl⟩
theorem wf32 {b : Nat} (h : (Lit.float .f32 b).wf = true) : b < 2 ^ 32 := by simpa [Lit.wf] using h
/-- an array of floats -/
theorem read_floats {t e : TypeId} {n fuel : Nat} {held : Bool} {base : Nat} {sp : Nat → Bool} {cs : List Value} {x : DataW H × List MemPlace} (ht : P.underlying t = some (.array n e)) (he : P.underlying e = some (.float .f32)) (hc : P.cellsOf e = 1) (hct : P.cellsOf t = n)
    (h : DataW.trod enc P W base sp held fuel t cs = some x) : ∃ l : List Nat, l.length = n ∧ (∀ b ∈ l, b < 2 ^ 32) ∧ cs = l.map fun b => Value.float .f32 b := by
  obtain ⟨xs, m, rfl, _, hlen, hn, hel⟩ := DataW.trod_array ht h
  rw [hct] at hlen
  obtain ⟨l, h1, h2, h3⟩ := floats_list cs (fun i hi => by
    have h1 := hel i (by omega)
    rw [hc, Nat.mul_one, List.getElem?_eq_getElem (by omega)] at h1
    obtain ⟨b, hcell, hw⟩ := trod_float he h1
    have e2 : ((cs.drop i).take 1)[0]? = some (.float .f32 b) := by rw [hcell]; rfl
    rw [List.getElem?_take, if_pos (by omega), List.getElem?_drop] at e2
    exact ⟨b, wf32 hw, by simpa using e2⟩)
  exact ⟨l, by omega, h2, h3⟩
/-- a slice of floats -/
theorem rd_float {e : TypeId} {fuel : Nat} {held : Bool} {sp : Nat → Bool} {cs : List Value} {x : DataW H × List MemPlace} (he : P.underlying e = some (.float .f32)) (h : DataW.trod enc P W 0 sp held fuel e cs = some x) :
    Rd W cs fun ds => ∃ b : Nat, b < 2 ^ 32 ∧ ds = [.v (.float .f32 b)] := by
  obtain ⟨b, rfl, hw⟩ := trod_float he h
  exact ⟨[], [.v (.float .f32 b)], AtRest.nil W, ⟨_, [], rfl, by simp [DT.R], by simp [DT.Rl]⟩, rfl, b, wf32 hw, rfl⟩
theorem onesF_flatten : ∀ {rows : List (List DT)}, (∀ r ∈ rows, r.length = 1 ∧ ∃ b : Nat, b < 2 ^ 32 ∧ r = [.v (.float .f32 b)]) → ∃ ws : List Nat, (∀ b ∈ ws, b < 2 ^ 32) ∧ rows.flatten = (ws.map fun b => DT.v (.float .f32 b)) ∧ ws.length = rows.length
  | [], _ => ⟨[], by simp, rfl, rfl⟩
  | r :: rows, h => by
    obtain ⟨ws, h1, h2, h3⟩ := onesF_flatten (fun s hs => h s (List.mem_cons_of_mem _ hs))
    obtain ⟨_, b, hb, rfl⟩ := h r (List.mem_cons_self ..)
    exact ⟨b :: ws, by simpa [hb] using h1, by rw [List.flatten_cons, h2]; rfl, by simp [h3]⟩
theorem rd_floats {t e : TypeId} {fuel : Nat} {held : Bool} {cs : List Value} {x : DataW H × List MemPlace} (ht : P.underlying t = some (.slice e)) (he : P.underlying e = some (.float .f32)) (hsz : P.cellsOf e = 1)
    (hc : ∃ a len cap, cs = [.slice a len cap]) (h : DataW.trod enc P W 0 (fun _ => true) held fuel t cs = some x) :
    Rd W cs fun ds => ∃ ws : List Nat, (∀ b ∈ ws, b < 2 ^ 32) ∧ ws.length ≤ maxLen ∧ ds = [dF ws] := by
  obtain ⟨F, ds, h1, h2, h3, rows, h4, h5, h6⟩ := rd_slice (Q := fun ds => ∃ b : Nat, b < 2 ^ 32 ∧ ds = [.v (.float .f32 b)]) ht hsz (by omega) (fun {_ _ _} hh => rd_float he hh) hc h
  obtain ⟨ws, k1, k2, k3⟩ := onesF_flatten h5
  exact ⟨F, ds, h1, h2, h3, ws, k1, by omega, by rw [h6, k2, ← k3]; rfl⟩
end
theorem all2_f {m : M} : ∀ (l : List Nat), All2 (CR m) (l.map fC) (l.map fun b => Value.float .f32 b)
  | [] => trivial
  | _ :: l => ⟨rfl, all2_f l⟩
end
end Go.Proofs.YtgplabfjldndgaaGreatDoor
