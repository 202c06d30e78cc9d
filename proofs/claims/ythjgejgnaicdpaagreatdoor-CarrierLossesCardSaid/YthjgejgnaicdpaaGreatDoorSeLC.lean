/-
  Part of the proof: SeLC.
-/
import Derived.Test.YthjgejgnaicdpaaGreatDoorSeLst
open Go Go.Ev
namespace Go.Proofs.YthjgejgnaicdpaaGreatDoor
noncomputable section
set_option maxRecDepth 100000
set_option maxHeartbeats 20000000
def st86z (C : List AC) (N ty : Nat) (fl : Bool) (pp : Option Addr) (cc : Nat) (_j : Nat → Value) : St := startK Tryz.f86 [some ⟨C, N, ty, fl, .cells⟩] [.e (.one (.v (.slice pp 0 cc)))]
def st87z (C : List AC) (N ty : Nat) (fl : Bool) (pp : Option Addr) (cc : Nat) (_j : Nat → Value) : St := startK Tryz.f87 [some ⟨C, N, ty, fl, .cells⟩] [.e (.one (.v (.slice pp 0 cc)))]
def st88z (C : List AC) (N ty : Nat) (fl : Bool) (pp : Option Addr) (cc : Nat) (st : Int) (_j : Nat → Value) : St := startK Tryz.f88 [some ⟨C, N, ty, fl, .cells⟩] [.e (.one (.v (.slice pp 0 cc))), iI st]
def st185z (_b : Bool) (_j : Nat → Value) : St := startK Tryz.f185 [] [(.e (.one (.v (.slice none 0 0)))), (.e (.one (.v (.func (.func 147) #[] #[]))))]
def st154z (_b : Bool) (_j : Nat → Value) : St := startK Tryz.f154 [] [(.e (.one (.v (.slice none 0 0)))), iI 512, (.e (.one (.v (.func (.func 147) #[] #[]))))]
def st85z (st _e2 _e3 : Int) (_j : Nat → Value) : St := startK Tryz.f85 [] [(.e (.one (.v (.slice none 0 0)))), iI st]
def s11 (C : List AC) (N ty : Nat) (fl : Bool) (x0 : AC) (st : Int) (_t : Bool) (_e1 _f1 _f2 _f3 : Int) (_a0 _r0 _y0 _a1 _r1 _b1 _u1 _y1 _z1 : AC) (_o0 _o1 _w1 : Option AB) (_j : Nat → Value) : St := startK Tryz.f11 [some ⟨C, N, ty, fl, .cells⟩] [.e (.one x0), iI st]
def c86z_end (C : List AC) (N ty : Nat) (fl : Bool) (_pp : Option Addr) (_cc : Nat) (j : Nat → Value) : St := ⟨[(.some ⟨(C), (N), (ty), (fl), .cells⟩)], [(.code .ret)], mkT j [(2, (.e (.one (.v (.slice none 0 0)))))] 18 0⟩
theorem c86z (hE : EnvOk E) (C : List AC) (N ty : Nat) (fl : Bool) (pp : Option Addr) (cc : Nat)  {Φ : Res → Prop} (ho : ∀ j, OutK E 1 1 (c86z_end C N ty fl pp cc j) Φ) (j : Nat → Value) : OutK E 1 1 (st86z C N ty fl pp cc j) Φ :=
  outK_seg hE (Go.Proofs.YthjgejgnaicdpaaGreatDoor.R0_ok hE) [.run 16] [2] (s' := fun j => ⟨[(.some ⟨(C), (N), (ty), (fl), .cells⟩)], [(.code .ret)], mkT j [(2, (.e (.one (.v (.slice none 0 0)))))] 18 0⟩) (ps := []) (fun j => by kernel_rfl) trivial
    ho
def c87z_end (C : List AC) (N ty : Nat) (fl : Bool) (_pp : Option Addr) (_cc : Nat) (j : Nat → Value) : St := ⟨[(.some ⟨(C), (N), (ty), (fl), .cells⟩)], [(.code .ret)], mkT j [(2, (iI 0))] 22 0⟩
theorem c87z (hE : EnvOk E) (C : List AC) (N ty : Nat) (fl : Bool) (pp : Option Addr) (cc : Nat)  {Φ : Res → Prop} (ho : ∀ j, OutK E 1 1 (c87z_end C N ty fl pp cc j) Φ) (j : Nat → Value) : OutK E 1 1 (st87z C N ty fl pp cc j) Φ :=
  outK_seg hE (Go.Proofs.YthjgejgnaicdpaaGreatDoor.R0_ok hE) [.run 19] [2] (s' := fun j => ⟨[(.some ⟨(C), (N), (ty), (fl), .cells⟩)], [(.code .ret)], mkT j [(2, (iI 0))] 22 0⟩) (ps := []) (fun j => by kernel_rfl) trivial
    ho
def c88z_end (C : List AC) (N ty : Nat) (fl : Bool) (_pp : Option Addr) (_cc : Nat) (_st : Int) (j : Nat → Value) : St := ⟨[(.some ⟨(C), (N), (ty), (fl), .cells⟩)], [(.code .ret)], mkT j [(4, (.e (.one (.v (.slice none 0 0))))), (5, (iI 0))] 51 0⟩
theorem c88z (hE : EnvOk E) (C : List AC) (N ty : Nat) (fl : Bool) (pp : Option Addr) (cc : Nat) (st : Int)  {Φ : Res → Prop} (ho : ∀ j, OutK E 1 1 (c88z_end C N ty fl pp cc st j) Φ) (j : Nat → Value) : OutK E 1 1 (st88z C N ty fl pp cc st j) Φ :=
  outK_seg hE (Go.Proofs.YthjgejgnaicdpaaGreatDoor.R0_ok hE) [.run 18] [4, 5] (s' := fun j => ⟨[(.some ⟨(C), (N), (ty), (fl), .cells⟩)], [(.code .ret)], mkT j [(4, (.e (.one (.v (.slice none 0 0))))), (5, (iI 0))] 51 0⟩) (ps := []) (fun j => by kernel_rfl) trivial
    ho
def c185z_end (_b : Bool) (j : Nat → Value) : St := ⟨[], [(.code .ret)], mkT j [(4, (iI 0))] 21 0⟩
theorem c185z (hE : EnvOk E) (b : Bool)  {Φ : Res → Prop} (ho : ∀ j, OutK E 0 0 (c185z_end b j) Φ) (j : Nat → Value) : OutK E 0 0 (st185z b j) Φ :=
  outK_seg hE (Go.Proofs.YthjgejgnaicdpaaGreatDoor.R0_ok hE) [.run 14] [4] (s' := fun j => ⟨[], [(.code .ret)], mkT j [(4, (iI 0))] 21 0⟩) (ps := []) (fun j => by kernel_rfl) trivial
    ho
def c154z_end (_b : Bool) (j : Nat → Value) : St := ⟨[], [(.code .ret)], mkT j [(6, (iI 0))] 14 0⟩
theorem c154z (hE : EnvOk E) (b : Bool) (h0 : COut E 0 [] 185 [(.e (.one (.v (.slice none 0 0)))), (.e (.one (.v (.func (.func 147) #[] #[]))))] (iI 0) []) {Φ : Res → Prop} (ho : ∀ j, OutK E 0 0 (c154z_end b j) Φ) (j : Nat → Value) : OutK E 0 0 (st154z b j) Φ :=
  outK_seg hE (Go.Proofs.YthjgejgnaicdpaaGreatDoor.R0_ok hE) [.run 8, (.ops [(2, (.c0 (iI 0)))] [])] [6] (s' := fun j => ⟨[], [(.code .ret)], mkT j [(6, (iI 0))] 14 0⟩) (ps := [COut E 0 [] 185 [(.e (.one (.v (.slice none 0 0)))), (.e (.one (.v (.func (.func 147) #[] #[]))))] (iI 0) [], ([] : List Nat) = []]) (fun j => by kernel_rfl) ⟨h0, rfl, trivial⟩
    ho
def c85ze_end (_st _e2 e3 : Int) (j : Nat → Value) : St := ⟨[], [(.code .ret), (.code (atC [1, 0, 1] (bodyOf Tryz.f85))), (.inScope (atC [1, 0] (bodyOf Tryz.f85)))], mkT j [(4, (.e (.one (.v (.slice none 0 0))))), (5, (iI (e3)))] 57 0⟩
theorem c85ze (hE : EnvOk E) (st e2 e3 : Int) (h0 : COut E 0 [] 154 [(.e (.one (.v (.slice none 0 0)))), (iI 512), (.e (.one (.v (.func (.func 147) #[] #[]))))] (iI 0) []) (h2 : COut E 0 [] 103 [(iI (st)), (iI 0), (iI 65535)] (iI (e2)) []) (h4 : COut E 1 [(.some ⟨[(.v (.int .i64 0)), (.v (.int .i64 (e2)))], 2, 26, true, .cells⟩)] 102 [(.e (.one (.slc 0 0 2 1 2 true)))] (iI (e3)) [(.some ⟨[(.v (.int .i64 0)), (.v (.int .i64 (e2)))], 2, 26, true, .cells⟩)]) (h7 : FlatB (some { cells := [icA (0 : Int), icA e2], n := (2 : Nat), elem := (26 : TypeId), full := true, ext := AX.cells : AB }) ∧ True) (h9 : True) (h11 : (e3 != (0 : Int) : Bool) = true) {Φ : Res → Prop} (ho : ∀ j, OutK E 0 0 (c85ze_end st e2 e3 j) Φ) (j : Nat → Value) : OutK E 0 0 (st85z st e2 e3 j) Φ :=
  outK_seg hE (Go.Proofs.YthjgejgnaicdpaaGreatDoor.R0_ok hE) [.run 5, (.ops [(1, (.c0 (iI 0))), (3, (.c0 (iI (e2)))), (5, (.cl [0] [true] [(.e (.one (.slc 0 0 2 1 2 true)))] [(.some ⟨[(.v (.int .i64 0)), (.v (.int .i64 (e2)))], 2, 26, true, .cells⟩)] (iI (e3)) [(.some ⟨[(.v (.int .i64 0)), (.v (.int .i64 (e2)))], 2, 26, true, .cells⟩)] (iI (e3)) [] []))] []), .run 2, (.cond true), .run 2] [4, 5] (s' := fun j => ⟨[(.some ⟨[(.v (.int .i64 0)), (.v (.int .i64 (e2)))], 2, 26, true, .cells⟩)], [(.code .ret), (.code (atC [1, 0, 1] (bodyOf Tryz.f85))), (.inScope (atC [1, 0] (bodyOf Tryz.f85)))], mkT j [(4, (.e (.one (.v (.slice none 0 0))))), (5, (iI (e3)))] 57 0⟩) (ps := [COut E 0 [] 154 [(.e (.one (.v (.slice none 0 0)))), (iI 512), (.e (.one (.v (.func (.func 147) #[] #[]))))] (iI 0) [], ([] : List Nat) = [], COut E 0 [] 103 [(iI (st)), (iI 0), (iI 65535)] (iI (e2)) [], ([] : List Nat) = [], COut E 1 [(.some ⟨[(.v (.int .i64 0)), (.v (.int .i64 (e2)))], 2, 26, true, .cells⟩)] 102 [(.e (.one (.slc 0 0 2 1 2 true)))] (iI (e3)) [(.some ⟨[(.v (.int .i64 0)), (.v (.int .i64 (e2)))], 2, 26, true, .cells⟩)], ([(.e (.one (.slc 0 0 2 1 2 true)))] : List AV) = [(.e (.one (.slc 0 0 2 1 2 true)))], ([(.some (.some ⟨[(.v (.int .i64 0)), (.v (.int .i64 (e2)))], 2, 26, true, .cells⟩))] : List (Option (Option AB))) = [(.some (.some ⟨[(.v (.int .i64 0)), (.v (.int .i64 (e2)))], 2, 26, true, .cells⟩))], FlatB (some { cells := [icA (0 : Int), icA e2], n := (2 : Nat), elem := (26 : TypeId), full := true, ext := AX.cells : AB }) ∧ True, ([] : List (Option (Option AB))) = [], True, ((iI (e3)) : AV) = (iI (e3)), (e3 != (0 : Int) : Bool) = true]) (fun j => by kernel_rfl) ⟨h0, rfl, h2, rfl, h4, rfl, rfl, h7, rfl, h9, rfl, h11, trivial⟩
    fun j => outK_gc [] (by decide) (by kernel_rfl) (by kernel_rfl) (by kernel_rfl) (ho j)
def c85za_end (_st _e2 _e3 : Int) (j : Nat → Value) : St := ⟨[], [(.code .ret), (.inScope (atC [1, 0] (bodyOf Tryz.f85)))], mkT j [(4, (.e (.one (.v (.slice none 0 0))))), (5, (iI 0))] 57 0⟩
theorem c85za (hE : EnvOk E) (st e2 e3 : Int) (h0 : COut E 0 [] 154 [(.e (.one (.v (.slice none 0 0)))), (iI 512), (.e (.one (.v (.func (.func 147) #[] #[]))))] (iI 0) []) (h2 : COut E 0 [] 103 [(iI (st)), (iI 0), (iI 65535)] (iI (e2)) []) (h4 : COut E 1 [(.some ⟨[(.v (.int .i64 0)), (.v (.int .i64 (e2)))], 2, 26, true, .cells⟩)] 102 [(.e (.one (.slc 0 0 2 1 2 true)))] (iI (e3)) [(.some ⟨[(.v (.int .i64 0)), (.v (.int .i64 (e2)))], 2, 26, true, .cells⟩)]) (h7 : FlatB (some { cells := [icA (0 : Int), icA e2], n := (2 : Nat), elem := (26 : TypeId), full := true, ext := AX.cells : AB }) ∧ True) (h9 : True) (h11 : (e3 != (0 : Int) : Bool) = false) {Φ : Res → Prop} (ho : ∀ j, OutK E 0 0 (c85za_end st e2 e3 j) Φ) (j : Nat → Value) : OutK E 0 0 (st85z st e2 e3 j) Φ :=
  outK_seg hE (Go.Proofs.YthjgejgnaicdpaaGreatDoor.R0_ok hE) [.run 5, (.ops [(1, (.c0 (iI 0))), (3, (.c0 (iI (e2)))), (5, (.cl [0] [true] [(.e (.one (.slc 0 0 2 1 2 true)))] [(.some ⟨[(.v (.int .i64 0)), (.v (.int .i64 (e2)))], 2, 26, true, .cells⟩)] (iI (e3)) [(.some ⟨[(.v (.int .i64 0)), (.v (.int .i64 (e2)))], 2, 26, true, .cells⟩)] (iI (e3)) [] []))] []), .run 2, (.cond false), .run 24] [4, 5] (s' := fun j => ⟨[(.some ⟨[(.v (.int .i64 0)), (.v (.int .i64 (e2)))], 2, 26, true, .cells⟩)], [(.code .ret), (.inScope (atC [1, 0] (bodyOf Tryz.f85)))], mkT j [(4, (.e (.one (.v (.slice none 0 0))))), (5, (iI 0))] 57 0⟩) (ps := [COut E 0 [] 154 [(.e (.one (.v (.slice none 0 0)))), (iI 512), (.e (.one (.v (.func (.func 147) #[] #[]))))] (iI 0) [], ([] : List Nat) = [], COut E 0 [] 103 [(iI (st)), (iI 0), (iI 65535)] (iI (e2)) [], ([] : List Nat) = [], COut E 1 [(.some ⟨[(.v (.int .i64 0)), (.v (.int .i64 (e2)))], 2, 26, true, .cells⟩)] 102 [(.e (.one (.slc 0 0 2 1 2 true)))] (iI (e3)) [(.some ⟨[(.v (.int .i64 0)), (.v (.int .i64 (e2)))], 2, 26, true, .cells⟩)], ([(.e (.one (.slc 0 0 2 1 2 true)))] : List AV) = [(.e (.one (.slc 0 0 2 1 2 true)))], ([(.some (.some ⟨[(.v (.int .i64 0)), (.v (.int .i64 (e2)))], 2, 26, true, .cells⟩))] : List (Option (Option AB))) = [(.some (.some ⟨[(.v (.int .i64 0)), (.v (.int .i64 (e2)))], 2, 26, true, .cells⟩))], FlatB (some { cells := [icA (0 : Int), icA e2], n := (2 : Nat), elem := (26 : TypeId), full := true, ext := AX.cells : AB }) ∧ True, ([] : List (Option (Option AB))) = [], True, ((iI (e3)) : AV) = (iI (e3)), (e3 != (0 : Int) : Bool) = false]) (fun j => by kernel_rfl) ⟨h0, rfl, h2, rfl, h4, rfl, rfl, h7, rfl, h9, rfl, h11, trivial⟩
    fun j => outK_gc [] (by decide) (by kernel_rfl) (by kernel_rfl) (by kernel_rfl) (ho j)
def c11w_end (C : List AC) (N ty : Nat) (fl : Bool) (_x0 : AC) (_st : Int) (_t : Bool) (_e1 _f1 _f2 _f3 : Int) (_a0 _r0 _y0 _a1 _r1 _b1 _u1 _y1 _z1 : AC) (_o0 _o1 _w1 : Option AB) (j : Nat → Value) : St := ⟨[(.some ⟨(C), (N), (ty), (fl), .cells⟩)], [(.code .ret), (.code (atC [1, 1] (bodyOf Tryz.f11)))], mkT j [(4, (iB true))] 42 0⟩
theorem c11w (hE : EnvOk E) (C : List AC) (N ty : Nat) (fl : Bool) (x0 : AC) (st : Int) (t : Bool) (e1 f1 f2 f3 : Int) (a0 r0 y0 a1 r1 b1 u1 y1 z1 : AC) (o0 o1 w1 : Option AB) (h0 : COut E 1 [(.some ⟨(C), (N), (ty), (fl), .cells⟩)] 84 [(.e (.one (x0)))] (iB (t)) [(.some ⟨(C), (N), (ty), (fl), .cells⟩)]) (h1 : ([(.e (.one (AC.ren (nthE [(0 : Nat)] (1 : Nat) (1 : Nat)) x0)))] : List AV) = [(.e (.one (x0)))]) (h3 : FlatB (some { cells := C, n := N, elem := ty, full := fl, ext := AX.cells : AB }) ∧ True) (h5 : True) (h7 : (!t : Bool) = true) (h8 : COut E 0 [] 15 [] (iB true) []) {Φ : Res → Prop} (ho : ∀ j, OutK E 1 1 (c11w_end C N ty fl x0 st t e1 f1 f2 f3 a0 r0 y0 a1 r1 b1 u1 y1 z1 o0 o1 w1 j) Φ) (j : Nat → Value) : OutK E 1 1 (s11 C N ty fl x0 st t e1 f1 f2 f3 a0 r0 y0 a1 r1 b1 u1 y1 z1 o0 o1 w1 j) Φ :=
  outK_seg hE (Go.Proofs.YthjgejgnaicdpaaGreatDoor.R0_ok hE) [.run 4, (.ops [(1, (.cl [0] [true] [(.e (.one (x0)))] [(.some ⟨(C), (N), (ty), (fl), .cells⟩)] (iB (t)) [(.some ⟨(C), (N), (ty), (fl), .cells⟩)] (iB (t)) [] []))] []), (.cond true), .run 1, (.ops [(0, (.c0 (iB true)))] [])] [4] (s' := fun j => ⟨[(.some ⟨(C), (N), (ty), (fl), .cells⟩)], [(.code .ret), (.code (atC [1, 1] (bodyOf Tryz.f11)))], mkT j [(4, (iB true))] 42 0⟩) (ps := [COut E 1 [(.some ⟨(C), (N), (ty), (fl), .cells⟩)] 84 [(.e (.one (x0)))] (iB (t)) [(.some ⟨(C), (N), (ty), (fl), .cells⟩)], ([(.e (.one (AC.ren (nthE [(0 : Nat)] (1 : Nat) (1 : Nat)) x0)))] : List AV) = [(.e (.one (x0)))], ([(.some (.some ⟨(C), (N), (ty), (fl), .cells⟩))] : List (Option (Option AB))) = [(.some (.some ⟨(C), (N), (ty), (fl), .cells⟩))], FlatB (some { cells := C, n := N, elem := ty, full := fl, ext := AX.cells : AB }) ∧ True, ([] : List (Option (Option AB))) = [], True, ((iB (t)) : AV) = (iB (t)), (!t : Bool) = true, COut E 0 [] 15 [] (iB true) [], ([] : List Nat) = []]) (fun j => by kernel_rfl) ⟨h0, h1, rfl, h3, rfl, h5, rfl, h7, h8, rfl, trivial⟩
    ho
def c11A_end (C : List AC) (N ty : Nat) (fl : Bool) (_x0 : AC) (_st : Int) (_t : Bool) (_e1 f1 f2 _f3 : Int) (_a0 _r0 _y0 _a1 _r1 _b1 _u1 _y1 _z1 : AC) (o0 o1 w1 : Option AB) (j : Nat → Value) : St := ⟨[(.some ⟨(C), (N), (ty), (fl), .cells⟩), (o0), (o1), (.some ⟨[(.v (.int .i64 (f1))), (.v (.int .i64 (f2)))], 2, 3, true, .cells⟩), (w1)], [(.code .ret)], mkT j [(4, (iB true))] 42 0⟩
theorem c11A (hE : EnvOk E) (C : List AC) (N ty : Nat) (fl : Bool) (x0 : AC) (st : Int) (t : Bool) (e1 f1 f2 f3 : Int) (a0 r0 y0 a1 r1 b1 u1 y1 z1 : AC) (o0 o1 w1 : Option AB) (h0 : COut E 1 [(.some ⟨(C), (N), (ty), (fl), .cells⟩)] 84 [(.e (.one (x0)))] (iB (t)) [(.some ⟨(C), (N), (ty), (fl), .cells⟩)]) (h1 : ([(.e (.one (AC.ren (nthE [(0 : Nat)] (1 : Nat) (1 : Nat)) x0)))] : List AV) = [(.e (.one (x0)))]) (h3 : FlatB (some { cells := C, n := N, elem := ty, full := fl, ext := AX.cells : AB }) ∧ True) (h5 : True) (h7 : (!t : Bool) = false) (h8 : COut E 1 [(.some ⟨(C), (N), (ty), (fl), .cells⟩)] 86 [(.e (.one (x0)))] (.e (.one (a0))) [(.some ⟨(C), (N), (ty), (fl), .cells⟩), (o0)]) (h9 : ([(.e (.one (AC.ren (nthE [(0 : Nat)] (1 : Nat) (1 : Nat)) x0)))] : List AV) = [(.e (.one (x0)))]) (h11 : FlatB (some { cells := C, n := N, elem := ty, full := fl, ext := AX.cells : AB }) ∧ True) (h13 : FlatB o0 ∧ True) (h14 : ((.e (.one (AC.ren (nthE [(0 : Nat)] (1 : Nat) (1 : Nat)) a0))) : AV) = (.e (.one (r0)))) (h15 : plainP [(.some ⟨(C), (N), (ty), (fl), .cells⟩)]) (h16 : plainP [(o0)]) (h17 : plainP [(o0)]) (h18 : COut E 1 [(o0)] 85 [(.e (.one (y0))), (iI (st))] (.tup [(.one (a1)), (.one (.v (.int .i64 (e1))))]) [(o0), (o1)]) (h19 : ([(.e (.one (AC.ren (nthE [(1 : Nat)] (2 : Nat) (1 : Nat)) y0))), (iI (st))] : List AV) = [(.e (.one (r0))), (iI (st))]) (h21 : FlatB o0 ∧ True) (h23 : FlatB o1 ∧ True) (h24 : ((.tup [(.one (AC.ren (nthE [(1 : Nat)] (2 : Nat) (1 : Nat)) a1)), (.one (.v (.int .i64 (e1))))]) : AV) = (.tup [(.one (r1)), (.one (.v (.int .i64 (e1))))])) (h25 : plainP [(o0)]) (h26 : plainP [(o1)]) (h27 : plainP [(o1)]) (h28 : COut E 1 [(.some ⟨(C), (N), (ty), (fl), .cells⟩)] 87 [(.e (.one (x0)))] (iI (f1)) [(.some ⟨(C), (N), (ty), (fl), .cells⟩)]) (h29 : ([(.e (.one (AC.ren (nthE [(0 : Nat)] (3 : Nat) (1 : Nat)) x0)))] : List AV) = [(.e (.one (x0)))]) (h31 : FlatB (some { cells := C, n := N, elem := ty, full := fl, ext := AX.cells : AB }) ∧ True) (h33 : True) (h35 : COut E 0 [] 19 [(iI (st)), (iI 0), (iI 65535)] (iI (f2)) []) (h37 : COut E 1 [(.some ⟨[(.v (.int .i64 (f1))), (.v (.int .i64 (f2)))], 2, 3, true, .cells⟩)] 17 [(.e (.one (.slc 0 0 2 1 2 true)))] (iI (f3)) [(.some ⟨[(.v (.int .i64 (f1))), (.v (.int .i64 (f2)))], 2, 3, true, .cells⟩)]) (h40 : FlatB (some { cells := [icA f1, icA f2], n := (2 : Nat), elem := (3 : TypeId), full := true, ext := AX.cells : AB }) ∧ True) (h42 : True) (h44 : (f3 == (0 : Int) : Bool) = true) (h45 : COut E 1 [(.some ⟨(C), (N), (ty), (fl), .cells⟩)] 88 [(.e (.one (x0))), (iI (st))] (.tup [(.one (b1)), (.one (.v (.int .i64 (e1))))]) [(.some ⟨(C), (N), (ty), (fl), .cells⟩), (w1)]) (h46 : ([(.e (.one (AC.ren (nthE [(0 : Nat)] (4 : Nat) (1 : Nat)) x0))), (iI (st))] : List AV) = [(.e (.one (x0))), (iI (st))]) (h48 : FlatB (some { cells := C, n := N, elem := ty, full := fl, ext := AX.cells : AB }) ∧ True) (h50 : FlatB w1 ∧ True) (h51 : ((.tup [(.one (AC.ren (nthE [(0 : Nat)] (4 : Nat) (1 : Nat)) b1)), (.one (.v (.int .i64 (e1))))]) : AV) = (.tup [(.one (u1)), (.one (.v (.int .i64 (e1))))])) (h52 : plainP [(.some ⟨(C), (N), (ty), (fl), .cells⟩)]) (h53 : plainP [(w1)]) (h54 : plainP [(w1)]) (h55 : COut E 2 [(o1), (w1)] 23 [(.e (.one (y1))), (iI (e1)), (iI (e1)), (.e (.one (z1)))] (iB true) [(o1), (w1)]) (h56 : ([(.e (.one (AC.ren (nthE [(2 : Nat), (4 : Nat)] (5 : Nat) (2 : Nat)) y1))), (iI (e1)), (iI (e1)), (.e (.one (AC.ren (nthE [(2 : Nat), (4 : Nat)] (5 : Nat) (2 : Nat)) z1)))] : List AV) = [(.e (.one (r1))), (iI (e1)), (iI (e1)), (.e (.one (u1)))]) (h58 : FlatB o1 ∧ FlatB w1 ∧ True) (h60 : True) (h62 : plainP [(o1), (w1)]) (h63 : plainP []) (h64 : plainP []) (h65 : COut E 0 [] 15 [] (iB true) []) {Φ : Res → Prop} (ho : ∀ j, OutK E 1 1 (c11A_end C N ty fl x0 st t e1 f1 f2 f3 a0 r0 y0 a1 r1 b1 u1 y1 z1 o0 o1 w1 j) Φ) (j : Nat → Value) : OutK E 1 1 (s11 C N ty fl x0 st t e1 f1 f2 f3 a0 r0 y0 a1 r1 b1 u1 y1 z1 o0 o1 w1 j) Φ :=
  outK_seg hE (Go.Proofs.YthjgejgnaicdpaaGreatDoor.R0_ok hE) [.run 4, (.ops [(1, (.cl [0] [true] [(.e (.one (x0)))] [(.some ⟨(C), (N), (ty), (fl), .cells⟩)] (iB (t)) [(.some ⟨(C), (N), (ty), (fl), .cells⟩)] (iB (t)) [] []))] []), (.cond false), .run 2, (.ops [(1, (.clq [0] [true] [(.e (.one (x0)))] [(.some ⟨(C), (N), (ty), (fl), .cells⟩)] (.e (.one (a0))) [(.some ⟨(C), (N), (ty), (fl), .cells⟩), (o0)] (.e (.one (r0))) [true] [(o0)])), (3, (.clq [1] [true] [(.e (.one (y0))), (iI (st))] [(o0)] (.tup [(.one (a1)), (.one (.v (.int .i64 (e1))))]) [(o0), (o1)] (.tup [(.one (r1)), (.one (.v (.int .i64 (e1))))]) [true] [(o1)])), (5, .fw), (6, .fw)] []), .run 1, (.ops [(1, (.cl [0] [true] [(.e (.one (x0)))] [(.some ⟨(C), (N), (ty), (fl), .cells⟩)] (iI (f1)) [(.some ⟨(C), (N), (ty), (fl), .cells⟩)] (iI (f1)) [] [])), (3, (.c0 (iI (f2)))), (5, (.cl [3] [true] [(.e (.one (.slc 0 0 2 1 2 true)))] [(.some ⟨[(.v (.int .i64 (f1))), (.v (.int .i64 (f2)))], 2, 3, true, .cells⟩)] (iI (f3)) [(.some ⟨[(.v (.int .i64 (f1))), (.v (.int .i64 (f2)))], 2, 3, true, .cells⟩)] (iI (f3)) [] []))] []), .run 5, (.cond true), (.ops [(2, (.clq [0] [true] [(.e (.one (x0))), (iI (st))] [(.some ⟨(C), (N), (ty), (fl), .cells⟩)] (.tup [(.one (b1)), (.one (.v (.int .i64 (e1))))]) [(.some ⟨(C), (N), (ty), (fl), .cells⟩), (w1)] (.tup [(.one (u1)), (.one (.v (.int .i64 (e1))))]) [true] [(w1)])), (4, .fw), (5, .fw)] []), .run 1, (.ops [(4, (.clq [2, 4] [true, true] [(.e (.one (y1))), (iI (e1)), (iI (e1)), (.e (.one (z1)))] [(o1), (w1)] (iB true) [(o1), (w1)] (iB true) [] [])), (6, (.c0 (iB true)))] [])] [4] (s' := fun j => ⟨[(.some ⟨(C), (N), (ty), (fl), .cells⟩), (o0), (o1), (.some ⟨[(.v (.int .i64 (f1))), (.v (.int .i64 (f2)))], 2, 3, true, .cells⟩), (w1)], [(.code .ret)], mkT j [(4, (iB true))] 42 0⟩) (ps := [COut E 1 [(.some ⟨(C), (N), (ty), (fl), .cells⟩)] 84 [(.e (.one (x0)))] (iB (t)) [(.some ⟨(C), (N), (ty), (fl), .cells⟩)], ([(.e (.one (AC.ren (nthE [(0 : Nat)] (1 : Nat) (1 : Nat)) x0)))] : List AV) = [(.e (.one (x0)))], ([(.some (.some ⟨(C), (N), (ty), (fl), .cells⟩))] : List (Option (Option AB))) = [(.some (.some ⟨(C), (N), (ty), (fl), .cells⟩))], FlatB (some { cells := C, n := N, elem := ty, full := fl, ext := AX.cells : AB }) ∧ True, ([] : List (Option (Option AB))) = [], True, ((iB (t)) : AV) = (iB (t)), (!t : Bool) = false, COut E 1 [(.some ⟨(C), (N), (ty), (fl), .cells⟩)] 86 [(.e (.one (x0)))] (.e (.one (a0))) [(.some ⟨(C), (N), (ty), (fl), .cells⟩), (o0)], ([(.e (.one (AC.ren (nthE [(0 : Nat)] (1 : Nat) (1 : Nat)) x0)))] : List AV) = [(.e (.one (x0)))], ([(.some (.some ⟨(C), (N), (ty), (fl), .cells⟩))] : List (Option (Option AB))) = [(.some (.some ⟨(C), (N), (ty), (fl), .cells⟩))], FlatB (some { cells := C, n := N, elem := ty, full := fl, ext := AX.cells : AB }) ∧ True, ([(.some (o0))] : List (Option (Option AB))) = [(.some (o0))], FlatB o0 ∧ True, ((.e (.one (AC.ren (nthE [(0 : Nat)] (1 : Nat) (1 : Nat)) a0))) : AV) = (.e (.one (r0))), plainP [(.some ⟨(C), (N), (ty), (fl), .cells⟩)], plainP [(o0)], plainP [(o0)], COut E 1 [(o0)] 85 [(.e (.one (y0))), (iI (st))] (.tup [(.one (a1)), (.one (.v (.int .i64 (e1))))]) [(o0), (o1)], ([(.e (.one (AC.ren (nthE [(1 : Nat)] (2 : Nat) (1 : Nat)) y0))), (iI (st))] : List AV) = [(.e (.one (r0))), (iI (st))], ([(.some (o0))] : List (Option (Option AB))) = [(.some (o0))], FlatB o0 ∧ True, ([(.some (o1))] : List (Option (Option AB))) = [(.some (o1))], FlatB o1 ∧ True, ((.tup [(.one (AC.ren (nthE [(1 : Nat)] (2 : Nat) (1 : Nat)) a1)), (.one (.v (.int .i64 (e1))))]) : AV) = (.tup [(.one (r1)), (.one (.v (.int .i64 (e1))))]), plainP [(o0)], plainP [(o1)], plainP [(o1)], COut E 1 [(.some ⟨(C), (N), (ty), (fl), .cells⟩)] 87 [(.e (.one (x0)))] (iI (f1)) [(.some ⟨(C), (N), (ty), (fl), .cells⟩)], ([(.e (.one (AC.ren (nthE [(0 : Nat)] (3 : Nat) (1 : Nat)) x0)))] : List AV) = [(.e (.one (x0)))], ([(.some (.some ⟨(C), (N), (ty), (fl), .cells⟩))] : List (Option (Option AB))) = [(.some (.some ⟨(C), (N), (ty), (fl), .cells⟩))], FlatB (some { cells := C, n := N, elem := ty, full := fl, ext := AX.cells : AB }) ∧ True, ([] : List (Option (Option AB))) = [], True, ((iI (f1)) : AV) = (iI (f1)), COut E 0 [] 19 [(iI (st)), (iI 0), (iI 65535)] (iI (f2)) [], ([] : List Nat) = [], COut E 1 [(.some ⟨[(.v (.int .i64 (f1))), (.v (.int .i64 (f2)))], 2, 3, true, .cells⟩)] 17 [(.e (.one (.slc 0 0 2 1 2 true)))] (iI (f3)) [(.some ⟨[(.v (.int .i64 (f1))), (.v (.int .i64 (f2)))], 2, 3, true, .cells⟩)], ([(.e (.one (.slc 3 0 2 1 2 true)))] : List AV) = [(.e (.one (.slc 3 0 2 1 2 true)))], ([(.some (.some ⟨[(.v (.int .i64 (f1))), (.v (.int .i64 (f2)))], 2, 3, true, .cells⟩))] : List (Option (Option AB))) = [(.some (.some ⟨[(.v (.int .i64 (f1))), (.v (.int .i64 (f2)))], 2, 3, true, .cells⟩))], FlatB (some { cells := [icA f1, icA f2], n := (2 : Nat), elem := (3 : TypeId), full := true, ext := AX.cells : AB }) ∧ True, ([] : List (Option (Option AB))) = [], True, ((iI (f3)) : AV) = (iI (f3)), (f3 == (0 : Int) : Bool) = true, COut E 1 [(.some ⟨(C), (N), (ty), (fl), .cells⟩)] 88 [(.e (.one (x0))), (iI (st))] (.tup [(.one (b1)), (.one (.v (.int .i64 (e1))))]) [(.some ⟨(C), (N), (ty), (fl), .cells⟩), (w1)], ([(.e (.one (AC.ren (nthE [(0 : Nat)] (4 : Nat) (1 : Nat)) x0))), (iI (st))] : List AV) = [(.e (.one (x0))), (iI (st))], ([(.some (.some ⟨(C), (N), (ty), (fl), .cells⟩))] : List (Option (Option AB))) = [(.some (.some ⟨(C), (N), (ty), (fl), .cells⟩))], FlatB (some { cells := C, n := N, elem := ty, full := fl, ext := AX.cells : AB }) ∧ True, ([(.some (w1))] : List (Option (Option AB))) = [(.some (w1))], FlatB w1 ∧ True, ((.tup [(.one (AC.ren (nthE [(0 : Nat)] (4 : Nat) (1 : Nat)) b1)), (.one (.v (.int .i64 (e1))))]) : AV) = (.tup [(.one (u1)), (.one (.v (.int .i64 (e1))))]), plainP [(.some ⟨(C), (N), (ty), (fl), .cells⟩)], plainP [(w1)], plainP [(w1)], COut E 2 [(o1), (w1)] 23 [(.e (.one (y1))), (iI (e1)), (iI (e1)), (.e (.one (z1)))] (iB true) [(o1), (w1)], ([(.e (.one (AC.ren (nthE [(2 : Nat), (4 : Nat)] (5 : Nat) (2 : Nat)) y1))), (iI (e1)), (iI (e1)), (.e (.one (AC.ren (nthE [(2 : Nat), (4 : Nat)] (5 : Nat) (2 : Nat)) z1)))] : List AV) = [(.e (.one (r1))), (iI (e1)), (iI (e1)), (.e (.one (u1)))], ([(.some (o1)), (.some (w1))] : List (Option (Option AB))) = [(.some (o1)), (.some (w1))], FlatB o1 ∧ FlatB w1 ∧ True, ([] : List (Option (Option AB))) = [], True, ((iB true) : AV) = (iB true), plainP [(o1), (w1)], plainP [], plainP [], COut E 0 [] 15 [] (iB true) [], ([] : List Nat) = []]) (fun j => by kernel_rfl) ⟨h0, h1, rfl, h3, rfl, h5, rfl, h7, h8, h9, rfl, h11, rfl, h13, h14, h15, h16, h17, h18, h19, rfl, h21, rfl, h23, h24, h25, h26, h27, h28, h29, rfl, h31, rfl, h33, rfl, h35, rfl, h37, rfl, rfl, h40, rfl, h42, rfl, h44, h45, h46, rfl, h48, rfl, h50, h51, h52, h53, h54, h55, h56, rfl, h58, rfl, h60, rfl, h62, h63, h64, h65, rfl, trivial⟩
    ho
def c11B_end (C : List AC) (N ty : Nat) (fl : Bool) (_x0 : AC) (_st : Int) (_t : Bool) (_e1 f1 f2 _f3 : Int) (_a0 _r0 _y0 _a1 _r1 _b1 _u1 _y1 _z1 : AC) (o0 _o1 _w1 : Option AB) (j : Nat → Value) : St := ⟨[(.some ⟨(C), (N), (ty), (fl), .cells⟩), (o0), none, (.some ⟨[(.v (.int .i64 (f1))), (.v (.int .i64 (f2)))], 2, 3, true, .cells⟩)], [(.code .ret)], mkT j [(4, (iB true))] 42 0⟩
theorem c11B (hE : EnvOk E) (C : List AC) (N ty : Nat) (fl : Bool) (x0 : AC) (st : Int) (t : Bool) (e1 f1 f2 f3 : Int) (a0 r0 y0 a1 r1 b1 u1 y1 z1 : AC) (o0 o1 w1 : Option AB) (h0 : COut E 1 [(.some ⟨(C), (N), (ty), (fl), .cells⟩)] 84 [(.e (.one (x0)))] (iB (t)) [(.some ⟨(C), (N), (ty), (fl), .cells⟩)]) (h1 : ([(.e (.one (AC.ren (nthE [(0 : Nat)] (1 : Nat) (1 : Nat)) x0)))] : List AV) = [(.e (.one (x0)))]) (h3 : FlatB (some { cells := C, n := N, elem := ty, full := fl, ext := AX.cells : AB }) ∧ True) (h5 : True) (h7 : (!t : Bool) = false) (h8 : COut E 1 [(.some ⟨(C), (N), (ty), (fl), .cells⟩)] 86 [(.e (.one (x0)))] (.e (.one (a0))) [(.some ⟨(C), (N), (ty), (fl), .cells⟩), (o0)]) (h9 : ([(.e (.one (AC.ren (nthE [(0 : Nat)] (1 : Nat) (1 : Nat)) x0)))] : List AV) = [(.e (.one (x0)))]) (h11 : FlatB (some { cells := C, n := N, elem := ty, full := fl, ext := AX.cells : AB }) ∧ True) (h13 : FlatB o0 ∧ True) (h14 : ((.e (.one (AC.ren (nthE [(0 : Nat)] (1 : Nat) (1 : Nat)) a0))) : AV) = (.e (.one (r0)))) (h15 : plainP [(.some ⟨(C), (N), (ty), (fl), .cells⟩)]) (h16 : plainP [(o0)]) (h17 : plainP [(o0)]) (h18 : COut E 1 [(o0)] 85 [(.e (.one (y0))), (iI (st))] (.tup [(.one (.v (.slice none 0 0))), (.one (.v (.int .i64 (e1))))]) [(o0), none]) (h19 : ([(.e (.one (AC.ren (nthE [(1 : Nat)] (2 : Nat) (1 : Nat)) y0))), (iI (st))] : List AV) = [(.e (.one (r0))), (iI (st))]) (h21 : FlatB o0 ∧ True) (h23 : FlatB none ∧ True) (h25 : plainP [(o0)]) (h26 : plainP [none]) (h27 : plainP [none]) (h28 : COut E 1 [(.some ⟨(C), (N), (ty), (fl), .cells⟩)] 87 [(.e (.one (x0)))] (iI (f1)) [(.some ⟨(C), (N), (ty), (fl), .cells⟩)]) (h29 : ([(.e (.one (AC.ren (nthE [(0 : Nat)] (3 : Nat) (1 : Nat)) x0)))] : List AV) = [(.e (.one (x0)))]) (h31 : FlatB (some { cells := C, n := N, elem := ty, full := fl, ext := AX.cells : AB }) ∧ True) (h33 : True) (h35 : COut E 0 [] 19 [(iI (st)), (iI 0), (iI 65535)] (iI (f2)) []) (h37 : COut E 1 [(.some ⟨[(.v (.int .i64 (f1))), (.v (.int .i64 (f2)))], 2, 3, true, .cells⟩)] 17 [(.e (.one (.slc 0 0 2 1 2 true)))] (iI (f3)) [(.some ⟨[(.v (.int .i64 (f1))), (.v (.int .i64 (f2)))], 2, 3, true, .cells⟩)]) (h40 : FlatB (some { cells := [icA f1, icA f2], n := (2 : Nat), elem := (3 : TypeId), full := true, ext := AX.cells : AB }) ∧ True) (h42 : True) (h44 : (f3 == (0 : Int) : Bool) = false) (h45 : COut E 0 [] 23 [(.e (.one (.v (.slice none 0 0)))), (iI (e1)), (iI (f3)), (.e (.one (.v (.slice none 0 0))))] (iB true) []) (h47 : COut E 0 [] 15 [] (iB true) []) {Φ : Res → Prop} (ho : ∀ j, OutK E 1 1 (c11B_end C N ty fl x0 st t e1 f1 f2 f3 a0 r0 y0 a1 r1 b1 u1 y1 z1 o0 o1 w1 j) Φ) (j : Nat → Value) : OutK E 1 1 (s11 C N ty fl x0 st t e1 f1 f2 f3 a0 r0 y0 a1 r1 b1 u1 y1 z1 o0 o1 w1 j) Φ :=
  outK_seg hE (Go.Proofs.YthjgejgnaicdpaaGreatDoor.R0_ok hE) [.run 4, (.ops [(1, (.cl [0] [true] [(.e (.one (x0)))] [(.some ⟨(C), (N), (ty), (fl), .cells⟩)] (iB (t)) [(.some ⟨(C), (N), (ty), (fl), .cells⟩)] (iB (t)) [] []))] []), (.cond false), .run 2, (.ops [(1, (.clq [0] [true] [(.e (.one (x0)))] [(.some ⟨(C), (N), (ty), (fl), .cells⟩)] (.e (.one (a0))) [(.some ⟨(C), (N), (ty), (fl), .cells⟩), (o0)] (.e (.one (r0))) [true] [(o0)])), (3, (.clq [1] [true] [(.e (.one (y0))), (iI (st))] [(o0)] (.tup [(.one (.v (.slice none 0 0))), (.one (.v (.int .i64 (e1))))]) [(o0), none] (.tup [(.one (.v (.slice none 0 0))), (.one (.v (.int .i64 (e1))))]) [true] [none]))] []), .run 1, (.ops [(1, (.cl [0] [true] [(.e (.one (x0)))] [(.some ⟨(C), (N), (ty), (fl), .cells⟩)] (iI (f1)) [(.some ⟨(C), (N), (ty), (fl), .cells⟩)] (iI (f1)) [] [])), (3, (.c0 (iI (f2)))), (5, (.cl [3] [true] [(.e (.one (.slc 0 0 2 1 2 true)))] [(.some ⟨[(.v (.int .i64 (f1))), (.v (.int .i64 (f2)))], 2, 3, true, .cells⟩)] (iI (f3)) [(.some ⟨[(.v (.int .i64 (f1))), (.v (.int .i64 (f2)))], 2, 3, true, .cells⟩)] (iI (f3)) [] []))] []), .run 5, (.cond false), .run 2, (.ops [(4, (.c0 (iB true))), (6, (.c0 (iB true)))] [])] [4] (s' := fun j => ⟨[(.some ⟨(C), (N), (ty), (fl), .cells⟩), (o0), none, (.some ⟨[(.v (.int .i64 (f1))), (.v (.int .i64 (f2)))], 2, 3, true, .cells⟩)], [(.code .ret)], mkT j [(4, (iB true))] 42 0⟩) (ps := [COut E 1 [(.some ⟨(C), (N), (ty), (fl), .cells⟩)] 84 [(.e (.one (x0)))] (iB (t)) [(.some ⟨(C), (N), (ty), (fl), .cells⟩)], ([(.e (.one (AC.ren (nthE [(0 : Nat)] (1 : Nat) (1 : Nat)) x0)))] : List AV) = [(.e (.one (x0)))], ([(.some (.some ⟨(C), (N), (ty), (fl), .cells⟩))] : List (Option (Option AB))) = [(.some (.some ⟨(C), (N), (ty), (fl), .cells⟩))], FlatB (some { cells := C, n := N, elem := ty, full := fl, ext := AX.cells : AB }) ∧ True, ([] : List (Option (Option AB))) = [], True, ((iB (t)) : AV) = (iB (t)), (!t : Bool) = false, COut E 1 [(.some ⟨(C), (N), (ty), (fl), .cells⟩)] 86 [(.e (.one (x0)))] (.e (.one (a0))) [(.some ⟨(C), (N), (ty), (fl), .cells⟩), (o0)], ([(.e (.one (AC.ren (nthE [(0 : Nat)] (1 : Nat) (1 : Nat)) x0)))] : List AV) = [(.e (.one (x0)))], ([(.some (.some ⟨(C), (N), (ty), (fl), .cells⟩))] : List (Option (Option AB))) = [(.some (.some ⟨(C), (N), (ty), (fl), .cells⟩))], FlatB (some { cells := C, n := N, elem := ty, full := fl, ext := AX.cells : AB }) ∧ True, ([(.some (o0))] : List (Option (Option AB))) = [(.some (o0))], FlatB o0 ∧ True, ((.e (.one (AC.ren (nthE [(0 : Nat)] (1 : Nat) (1 : Nat)) a0))) : AV) = (.e (.one (r0))), plainP [(.some ⟨(C), (N), (ty), (fl), .cells⟩)], plainP [(o0)], plainP [(o0)], COut E 1 [(o0)] 85 [(.e (.one (y0))), (iI (st))] (.tup [(.one (.v (.slice none 0 0))), (.one (.v (.int .i64 (e1))))]) [(o0), none], ([(.e (.one (AC.ren (nthE [(1 : Nat)] (2 : Nat) (1 : Nat)) y0))), (iI (st))] : List AV) = [(.e (.one (r0))), (iI (st))], ([(.some (o0))] : List (Option (Option AB))) = [(.some (o0))], FlatB o0 ∧ True, ([(.some none)] : List (Option (Option AB))) = [(.some none)], FlatB none ∧ True, ((.tup [(.one (.v (.slice none 0 0))), (.one (.v (.int .i64 (e1))))]) : AV) = (.tup [(.one (.v (.slice none 0 0))), (.one (.v (.int .i64 (e1))))]), plainP [(o0)], plainP [none], plainP [none], COut E 1 [(.some ⟨(C), (N), (ty), (fl), .cells⟩)] 87 [(.e (.one (x0)))] (iI (f1)) [(.some ⟨(C), (N), (ty), (fl), .cells⟩)], ([(.e (.one (AC.ren (nthE [(0 : Nat)] (3 : Nat) (1 : Nat)) x0)))] : List AV) = [(.e (.one (x0)))], ([(.some (.some ⟨(C), (N), (ty), (fl), .cells⟩))] : List (Option (Option AB))) = [(.some (.some ⟨(C), (N), (ty), (fl), .cells⟩))], FlatB (some { cells := C, n := N, elem := ty, full := fl, ext := AX.cells : AB }) ∧ True, ([] : List (Option (Option AB))) = [], True, ((iI (f1)) : AV) = (iI (f1)), COut E 0 [] 19 [(iI (st)), (iI 0), (iI 65535)] (iI (f2)) [], ([] : List Nat) = [], COut E 1 [(.some ⟨[(.v (.int .i64 (f1))), (.v (.int .i64 (f2)))], 2, 3, true, .cells⟩)] 17 [(.e (.one (.slc 0 0 2 1 2 true)))] (iI (f3)) [(.some ⟨[(.v (.int .i64 (f1))), (.v (.int .i64 (f2)))], 2, 3, true, .cells⟩)], ([(.e (.one (.slc 3 0 2 1 2 true)))] : List AV) = [(.e (.one (.slc 3 0 2 1 2 true)))], ([(.some (.some ⟨[(.v (.int .i64 (f1))), (.v (.int .i64 (f2)))], 2, 3, true, .cells⟩))] : List (Option (Option AB))) = [(.some (.some ⟨[(.v (.int .i64 (f1))), (.v (.int .i64 (f2)))], 2, 3, true, .cells⟩))], FlatB (some { cells := [icA f1, icA f2], n := (2 : Nat), elem := (3 : TypeId), full := true, ext := AX.cells : AB }) ∧ True, ([] : List (Option (Option AB))) = [], True, ((iI (f3)) : AV) = (iI (f3)), (f3 == (0 : Int) : Bool) = false, COut E 0 [] 23 [(.e (.one (.v (.slice none 0 0)))), (iI (e1)), (iI (f3)), (.e (.one (.v (.slice none 0 0))))] (iB true) [], ([] : List Nat) = [], COut E 0 [] 15 [] (iB true) [], ([] : List Nat) = []]) (fun j => by kernel_rfl) ⟨h0, h1, rfl, h3, rfl, h5, rfl, h7, h8, h9, rfl, h11, rfl, h13, h14, h15, h16, h17, h18, h19, rfl, h21, rfl, h23, rfl, h25, h26, h27, h28, h29, rfl, h31, rfl, h33, rfl, h35, rfl, h37, rfl, rfl, h40, rfl, h42, rfl, h44, h45, rfl, h47, rfl, trivial⟩
    ho

theorem lX_ren (f : Nat → Nat) (b sz : Nat) (T : List (List AC)) : AC.ren f (lstX b sz T) = lstX (f b) sz T := by cases T <;> rfl
theorem flat_two (a b : Int) : FlatC [icA a, icA b] := fun c hc => by
  simp only [List.mem_cons, List.not_mem_nil, or_false] at hc
  rcases hc with rfl | rfl <;> exact ⟨_, rfl⟩
theorem lRows {sz : Nat} : ∀ (l : List (List AC)), (∀ r ∈ l, r.length = sz) → RowsAt l.flatten 0 sz l
  | [], _, i, r, hr => by simp at hr
  | x :: l, h, i, r, hr => by
    have hx := h x (List.mem_cons_self ..)
    cases i with
    | zero =>
      simp only [List.getElem?_cons_zero, Option.some.injEq] at hr
      subst hr
      rw [takeL_eq, dropL_eq, Nat.zero_mul, Nat.add_zero, List.drop_zero, List.flatten_cons, if_pos (by rw [List.length_append]; omega), ← hx, List.take_left]
    | succ i =>
      simp only [List.getElem?_cons_succ] at hr
      have := lRows l (fun r hr => h r (List.mem_cons_of_mem _ hr)) i r hr
      rw [takeL_eq, dropL_eq] at this ⊢
      have e : (x :: l).flatten.drop (0 + (i + 1) * sz) = l.flatten.drop (0 + i * sz) := by
        rw [List.flatten_cons, show 0 + (i + 1) * sz = x.length + (0 + i * sz) by rw [hx, Nat.succ_mul]; omega, List.drop_append]
        simp
      rw [e]; exact this
theorem lFlat {R : List (List AC)} (h : ∀ r ∈ R, FlatC r) : FlatC R.flatten := fun c hc => by
  obtain ⟨l, hl, hcl⟩ := List.mem_flatten.1 hc
  exact h l hl c hcl
theorem lTel_len {r : List AC} (h : isTel r) : r.length = 19 := by
  obtain ⟨s, c, d, ps, hp, rfl⟩ := h
  simp [telC, hp]
/-- a slice of telegrams: block 0, or without elements -/
def SlT (C : List AC) (x : AC) (n : Nat) (l : List (List AC)) : Prop :=
  l.length = n ∧ (∀ r ∈ l, isTel r) ∧ ((n = 0 ∧ ∃ p c, x = .v (.slice p 0 c)) ∨ (0 < n ∧ ∃ o cap ex, x = .slc 0 o n 19 cap ex ∧ RowsAt C o 19 l))
theorem SlT.lenIs {n : Nat} {C : List AC} {x : AC} {l : List (List AC)} (h : SlT C x n l) : LenIs (.e (.one x)) n := by
  obtain ⟨_, _, ⟨rfl, p, c, rfl⟩ | ⟨_, o, cap, ex, rfl, _⟩⟩ := h
  · exact .inr ⟨p, c, rfl⟩
  · exact .inl ⟨0, o, 19, cap, ex, rfl⟩
theorem SlT.ren0 {x : AC} {n : Nat} {C : List AC} {l : List (List AC)} (h : SlT C x n l) (k : Nat) : AC.ren (nthE [0] k 1) x = x := by
  obtain ⟨_, _, ⟨rfl, p, c, rfl⟩ | ⟨_, o, cap, ex, rfl, _⟩⟩ := h <;> rfl
theorem tel_rng {s c d : Int} (h : telE s c d = 0) : 0 ≤ c ∧ c ≤ 65535 := by
  unfold telE at h
  split at h
  · exact absurd h (by decide)
  · rename_i h1
    simp only [Bool.not_eq_true', Bool.not_eq_false, Bool.and_eq_true, beq_iff_eq] at h1
    omega
theorem firstI_all : ∀ (l : List Int), firstI l = 0 → ∀ z ∈ l, z = 0
  | [], _, z, hz => by simp at hz
  | x :: l, h, z, hz => by
    by_cases hx : x = 0
    · have h2 : firstI l = 0 := by simpa [firstI, hx] using h
      rcases List.mem_cons.1 hz with rfl | hz
      · exact hx
      · exact firstI_all l h2 z hz
    · simp [firstI, hx] at h
theorem rows_valid {n : Nat} {l : List (List AC)} (ht : ∀ r ∈ l, isTel r) (h : chkT n l = 0) : ∀ r ∈ l, 0 ≤ rowN r ∧ rowN r ≤ 65535 := by
  unfold chkT at h
  split at h
  · exact absurd h (by decide)
  · intro r hr
    have h0 := firstI_all _ h (rowE r) (List.mem_map.2 ⟨r, hr, rfl⟩)
    obtain ⟨s, c, d, ps, _, rfl⟩ := ht r hr
    exact tel_rng (show telE s c d = 0 from h0)
theorem two_at (a b : Int) : ∀ (k : Nat) (x : Int), [a, b][k]? = some x → getL [icA a, icA b] (0 + k) = some (.v (.int .i64 x)) := by
  intro k v h
  rw [getL_eq, Nat.zero_add]
  rcases k with _ | _ | k
  · simp at h ⊢; rw [h]; rfl
  · simp at h ⊢; rw [h]; rfl
  · simp at h
/-- what Lost returns -/
def lostR (n : Nat) (st : Int) (l : List (List AC)) : List Int × Int :=
  if firstI [chkT n l, rngT 0 65535 st] = 0 then (match outL st l (-1) [] with | some zs => (zs, 0) | none => ([], 5)) else ([], firstI [chkT n l, rngT 0 65535 st])
theorem resV_eq (R : Option (List Int)) : resV R = .tup [.one (lstX 1 1 (icR (match R with | some zs => (zs, (0 : Int)) | none => ([], 5)).1)), .one (.v (.int .i64 (match R with | some zs => (zs, (0 : Int)) | none => ([], 5)).2))] := by cases R <;> rfl
theorem resH_eq (A : Option AB) (R : Option (List Int)) : resH A R = [A, lstB 1 3 (icR (match R with | some zs => (zs, (0 : Int)) | none => ([], 5)).1)] := by cases R <;> rfl
theorem k85 (hE : EnvOk E) {C : List AC} {N ty o n cap : Nat} {fl ex : Bool} (hf : FlatC C) (hm : n ≤ 1000) (st : Int) (l : List (List AC)) (hl : l.length = n) (ht : ∀ r ∈ l, isTel r) (hC : RowsAt C o 19 l) :
    COut E 1 [some ⟨C, N, ty, fl, .cells⟩] 85 [(.e (.one (.slc 0 o n 19 cap ex))), iI st] (.tup [.one (lstX 1 1 (icR (lostR n st l).1)), .one (.v (.int .i64 (lostR n st l).2))]) [some ⟨C, N, ty, fl, .cells⟩, lstB 1 3 (icR (lostR n st l).1)] := by
  have h154 := k154 hE (N := N) (ty := ty) (cap := cap) (fl := fl) (ex := ex) hf hm l hl ht hC
  have h103 := k103 hE st 0 65535
  have h102 := k102 hE (n := 2) (C := [icA (chkT n l), icA (rngT 0 65535 st)]) (N := 2) (ty := 26) (o := 0) (cap := 2) (fl := true) (ex := true) [chkT n l, rngT 0 65535 st] rfl (by omega) (two_at _ _)
  unfold lostR
  by_cases he : firstI [chkT n l, rngT 0 65535 st] = 0
  · rw [if_pos he]
    have hv := rows_valid ht (firstI_all _ he (chkT n l) (List.mem_cons_self ..))
    rw [he] at h102
    have hL := l85 hE (N := N) (ty := ty) (cap := cap) (fl := fl) (ex := ex) (st := st) hf hm l hl ht hv hC n 0 (-1) [] (by omega) (by simp) (by omega)
    rw [List.drop_zero, resV_eq, resH_eq] at hL
    exact cOut_start Tryz.func85 rfl (c85a hE C N ty o n cap fl ex st _ _ 0 h154 ⟨hf, trivial⟩ trivial h103 h102 ⟨flat_two _ _, trivial⟩ trivial rfl hf (fun j => outK_pad (hL j)) fun _ => undef)
  · rw [if_neg he]
    exact cOut_pad (cOut_start Tryz.func85 rfl (c85e hE C N ty o n cap fl ex st _ _ _ h154 ⟨hf, trivial⟩ trivial h103 h102 ⟨flat_two _ _, trivial⟩ trivial (by simpa using he) hf (fun j => outK_ret (ends_ret (by kernel_rfl))) fun _ => undef))
theorem k85z (hE : EnvOk E) (st : Int) : COut E 0 [] 85 [.e (.one (.v (.slice none 0 0))), iI st] (.tup [.one (.v (.slice none 0 0)), .one (.v (.int .i64 (firstI [0, rngT 0 65535 st])))]) [] := by
  have h185 : COut E 0 [] 185 [.e (.one (.v (.slice none 0 0))), .e (.one (.v (.func (.func 147) #[] #[])))] (iI 0) [] := cOut_start Tryz.func185 rfl (c185z hE true (fun j => outK_ret (ends_ret (by kernel_rfl))) fun _ => undef)
  have h154 : COut E 0 [] 154 [.e (.one (.v (.slice none 0 0))), iI 512, .e (.one (.v (.func (.func 147) #[] #[])))] (iI 0) [] := cOut_start Tryz.func154 rfl (c154z hE true h185 (fun j => outK_ret (ends_ret (by kernel_rfl))) fun _ => undef)
  have h103 := k103 hE st 0 65535
  have h102 := k102 hE (n := 2) (C := [icA 0, icA (rngT 0 65535 st)]) (N := 2) (ty := 26) (o := 0) (cap := 2) (fl := true) (ex := true) [0, rngT 0 65535 st] rfl (by omega) (two_at _ _)
  by_cases he : firstI [0, rngT 0 65535 st] = 0
  · rw [he] at h102 ⊢
    exact cOut_start Tryz.func85 rfl (c85za hE st _ 0 h154 h103 h102 ⟨flat_two _ _, trivial⟩ trivial rfl (fun j => outK_ret (ends_ret (by kernel_rfl))) fun _ => undef)
  · exact cOut_start Tryz.func85 rfl (c85ze hE st _ _ h154 h103 h102 ⟨flat_two _ _, trivial⟩ trivial (by simpa using he) (fun j => outK_ret (ends_ret (by kernel_rfl))) fun _ => undef)
theorem item85 (hE : EnvOk E) {n : Nat} (hm : n ≤ 1000) (st : Int) (l : List (List AC)) (hl : l.length = n) (ht : ∀ r ∈ l, isTel r) :
    COut E 1 [lstB 19 128 l] 85 [.e (.one (lstX 0 19 l)), iI st] (.tup [.one (lstX 1 1 (icR (lostR n st l).1)), .one (.v (.int .i64 (lostR n st l).2))]) [lstB 19 128 l, lstB 1 3 (icR (lostR n st l).1)] := by
  cases l with
  | nil =>
    subst hl
    have hR : lostR 0 st [] = ([], firstI [0, rngT 0 65535 st]) := by
      unfold lostR
      have e : chkT 0 [] = 0 := rfl
      rw [List.length_nil] at *
      rw [e]
      split
      · rename_i h; rw [h]; rfl
      · rfl
    rw [List.length_nil, hR]
    exact cOut_pad (cOut_frame hE (fun x hx => by
      simp only [List.mem_cons, List.not_mem_nil, or_false] at hx
      rcases hx with rfl | rfl <;> rfl) rfl (k85z hE st) [none] 1)
  | cons r T =>
    subst hl
    exact k85 hE (lFlat fun r hr => tel_flat (ht r hr)) hm st (r :: T) rfl ht (lRows _ fun r hr => lTel_len (ht r hr))
theorem item86 (hE : EnvOk E) {C : List AC} {N ty n : Nat} {fl : Bool} {x : AC} (hf : FlatC C) (hm : n ≤ 1000) (l : List (List AC)) (h0 : SlT C x n l) : COut E 1 [some ⟨C, N, ty, fl, .cells⟩] 86 [.e (.one x)] (.e (.one (lstX 1 19 l))) [some ⟨C, N, ty, fl, .cells⟩, lstB 19 128 l] := by
  obtain ⟨hl, ht, ⟨rfl, p, c, rfl⟩ | ⟨h0, o, cap, ex, rfl, hC⟩⟩ := h0
  · obtain rfl : l = [] := List.eq_nil_of_length_eq_zero hl
    exact cOut_pad (cOut_start Tryz.func86 rfl (c86z hE C N ty fl p c (fun j => outK_ret (ends_ret (by kernel_rfl))) fun _ => undef))
  · exact k86 hE hf hm l hl ht hC
theorem item87 (hE : EnvOk E) {C : List AC} {N ty n : Nat} {fl : Bool} {x : AC} (hf : FlatC C) (hm : n ≤ 1000) (l : List (List AC)) (h0 : SlT C x n l) : COut E 1 [some ⟨C, N, ty, fl, .cells⟩] 87 [.e (.one x)] (iI (chkT n l)) [some ⟨C, N, ty, fl, .cells⟩] := by
  obtain ⟨hl, ht, ⟨rfl, p, c, rfl⟩ | ⟨h0, o, cap, ex, rfl, hC⟩⟩ := h0
  · obtain rfl : l = [] := List.eq_nil_of_length_eq_zero hl
    exact cOut_start Tryz.func87 rfl (c87z hE C N ty fl p c (fun j => outK_ret (ends_ret (by kernel_rfl))) fun _ => undef)
  · exact k87 hE hf hm l hl ht hC
theorem item88 (hE : EnvOk E) {C : List AC} {N ty n : Nat} {fl : Bool} {x : AC} (hf : FlatC C) (hm : n ≤ 1000) (st : Int) (l : List (List AC)) (h0 : SlT C x n l) (he : firstI [chkT n l, rngT 0 65535 st] = 0) :
    COut E 1 [some ⟨C, N, ty, fl, .cells⟩] 88 [.e (.one x), iI st] (.tup [.one (lstX 1 1 (icR (lostR n st l).1)), .one (.v (.int .i64 (lostR n st l).2))]) [some ⟨C, N, ty, fl, .cells⟩, lstB 1 3 (icR (lostR n st l).1)] := by
  unfold lostR
  rw [if_pos he]
  obtain ⟨hl, ht, ⟨rfl, p, c, rfl⟩ | ⟨h0, o, cap, ex, rfl, hC⟩⟩ := h0
  · obtain rfl : l = [] := List.eq_nil_of_length_eq_zero hl
    exact cOut_pad (cOut_start Tryz.func88 rfl (c88z hE C N ty fl p c st (fun j => outK_ret (ends_ret (by kernel_rfl))) fun _ => undef))
  · have hv := rows_valid ht (firstI_all _ he (chkT n l) (List.mem_cons_self ..))
    have hL := l88 hE (N := N) (ty := ty) (cap := cap) (fl := fl) (ex := ex) (st := st) hf hm l hl ht hv hC n 0 (-1) (-1) (by omega) rfl (by omega) [] (by simp)
    rw [List.drop_zero, resV_eq, resH_eq] at hL
    exact cOut_start Tryz.func88 rfl (c88a hE C N ty o n cap fl ex st (fun j => outK_pad (hL j)) fun _ => undef)
theorem icR_flat : ∀ (zs : List Int), (icR zs).flatten = zs.map i64c
  | [] => rfl
  | z :: zs => by rw [List.map_cons, ← icR_flat zs]; rfl
theorem pair23t (hE : EnvOk E) (zs : List Int) (e : Int) (hl : zs.length ≤ 256) (he : zs ≠ [] → e = 0) :
    COut E 2 [lstB 1 3 (icR zs), lstB 1 3 (icR zs)] 23 [.e (.one (lstX 0 1 (icR zs))), iI e, iI e, .e (.one (lstX 1 1 (icR zs)))] (iB true) [lstB 1 3 (icR zs), lstB 1 3 (icR zs)] := by
  cases zs with
  | nil => exact cOut_frame hE (fun x hx => by
      simp only [List.mem_cons, List.not_mem_nil, or_false] at hx
      rcases hx with rfl | rfl | rfl | rfl <;> rfl) rfl (k23n hE e) _ _
  | cons z zs =>
    obtain rfl := he (by simp)
    have hn : (icR zs).length + 1 = zs.length + 1 := by rw [icR_len]
    have e1 : lstB 1 3 (icR (z :: zs)) = some ⟨(z :: zs).map i64c, ((icR zs).length + 1) * 1, 3, false, .cells⟩ := by
      rw [← icR_flat]; rfl
    have hl : zs.length + 1 ≤ 256 := hl
    rw [e1]
    exact k23 hE (flat_i64c _) (flat_i64c _) rfl (by rw [List.length_map]; omega) (z :: zs) (by rw [List.length_map]; rfl) (getAt_self _) (getAt_self _)
theorem outL_len (st : Int) : ∀ (l : List (List AC)) (w : Int) (acc zs : List Int), outL st l w acc = some zs → acc.length ≤ 256 → zs.length ≤ 256
  | [], w, acc, zs, h, hl => by
    simp only [outL, Option.some.injEq] at h
    subst h; exact hl
  | r :: l, w, acc, zs, h, hl => by
    unfold outL at h
    split at h
    · split at h
      · rename_i acc' ha
        refine outL_len st l _ _ _ h ?_
        split at ha
        · simp only [Option.some.injEq] at ha; subst ha; exact hl
        · exact innL_len _ _ _ _ _ ha hl
      · simp at h
    · exact outL_len st l _ _ _ h hl
theorem lostR_ok (n : Nat) (st : Int) (l : List (List AC)) : (lostR n st l).1.length ≤ 256 ∧ ((lostR n st l).1 ≠ [] → (lostR n st l).2 = 0) := by
  unfold lostR
  split
  · cases h : outL st l (-1) [] with
    | some zs => exact ⟨outL_len st l _ _ _ h (by simp), fun _ => rfl⟩
    | none => exact ⟨by simp, fun h => absurd rfl h⟩
  · exact ⟨by simp, fun h => absurd rfl h⟩
theorem item84 (hE : EnvOk E) {C : List AC} {N ty n : Nat} {fl : Bool} {x : AC} (L0 : LenIs (.e (.one x)) n) : COut E 1 [some ⟨C, N, ty, fl, .cells⟩] 84 [.e (.one x)] (iB (decide (n ≤ 20) || decide (n = 513))) [some ⟨C, N, ty, fl, .cells⟩] := by
  by_cases h : n ≤ 20
  · have d1 : decide ((n : Int) ≤ (20 : Int)) = true := decide_eq_true (by omega)
    rw [decide_eq_true h]
    exact cOut_start Tryz.func84 rfl (c84a hE C N ty fl x n L0 (by rw [d1]; rfl) (by rw [d1]; rfl) (by rw [d1]; rfl) d1 (fun j => outK_ret (ends_ret (by kernel_rfl))) fun _ => undef)
  · have d1 : decide ((n : Int) ≤ (20 : Int)) = false := decide_eq_false (by omega)
    rw [decide_eq_false h, Bool.false_or]
    have e : decide (n = 513) = ((n : Int) == (513 : Int)) := by
      by_cases h2 : n = 513
      · subst h2; rfl
      · rw [decide_eq_false h2]; symm; simp; omega
    rw [e]
    exact cOut_start Tryz.func84 rfl (c84b hE C N ty fl x n L0 (by rw [d1]; rfl) (by rw [d1]; rfl) L0 (by rw [d1]; rfl) d1 (fun j => outK_ret (ends_ret (by kernel_rfl))) fun _ => undef)
theorem core11 (hE : EnvOk E) {C : List AC} {N ty n : Nat} {fl : Bool} {x0 : AC} (hf : FlatC C) (l : List (List AC)) (st : Int) (h0 : SlT C x0 n l) (K15 : COut E 0 [] 15 [] (iB true) []) : ∃ H : Heap, COut E 1 [some ⟨C, N, ty, fl, .cells⟩] 11 [.e (.one x0), iI st] (iB true) H := by
  have L0 := h0.lenIs
  have K84 := item84 hE (C := C) (N := N) (ty := ty) (fl := fl) L0
  cases hb : (decide (n ≤ 20) || decide (n = 513)) with
  | false =>
    rw [hb] at K84
    have ht : (!false) = true := rfl
    exact ⟨_, cOut_start Tryz.func11 rfl (c11w hE C N ty fl x0 st false 0 (chkT n l) (rngT 0 65535 st) 0 (lstX 1 19 l) (lstX 1 19 l) (lstX 0 19 l) (.v (.slice none 0 0)) (.v (.slice none 0 0)) (.v (.slice none 0 0)) (.v (.slice none 0 0)) (.v (.slice none 0 0)) (.v (.slice none 0 0)) (lstB 19 128 l) none none K84 (by rw [h0.ren0]) ⟨hf, trivial⟩ trivial ht K15 (fun j => outK_ret (ends_ret (by kernel_rfl))) (fun _ => undef))⟩
  | true =>
    rw [hb] at K84
    have ht : (!true) = false := rfl
    have hm : n ≤ 1000 := by
      rw [Bool.or_eq_true, decide_eq_true_eq, decide_eq_true_eq] at hb
      omega
    have htel := h0.2.1
    have FT : ∀ r ∈ l, FlatC r := fun r hr => tel_flat (htel r hr)
    have K86 := item86 hE (N := N) (ty := ty) (fl := fl) hf hm l h0
    have K85 := item85 hE hm st l h0.1 htel
    have K87 := item87 hE (N := N) (ty := ty) (fl := fl) hf hm l h0
    have K19 := k19 hE st 0 65535
    have K17 := k17 hE (n := 2) (C := [icA (chkT n l), icA (rngT 0 65535 st)]) (N := 2) (ty := 3) (o := 0) (cap := 2) (fl := true) (ex := true) [chkT n l, rngT 0 65535 st] rfl (by omega) (two_at _ _)
    have hok := lostR_ok n st l
    by_cases he : firstI [chkT n l, rngT 0 65535 st] = 0
    · have K88 := item88 hE (N := N) (ty := ty) (fl := fl) hf hm st l h0 he
      rw [he] at K17
      generalize lostR n st l = R at K85 K88 hok
      have K23 := pair23t hE R.1 R.2 hok.1 hok.2
      have E3 : ((0 : Int) == 0) = true := rfl
      exact ⟨_, cOut_start Tryz.func11 rfl (c11A hE C N ty fl x0 st true R.2 (chkT n l) (rngT 0 65535 st) 0 (lstX 1 19 l) (lstX 1 19 l) (lstX 0 19 l) (lstX 1 1 (icR R.1)) (lstX 2 1 (icR R.1)) (lstX 1 1 (icR R.1)) (lstX 4 1 (icR R.1)) (lstX 0 1 (icR R.1)) (lstX 1 1 (icR R.1)) (lstB 19 128 l) (lstB 1 3 (icR R.1)) (lstB 1 3 (icR R.1)) K84 (by rw [h0.ren0]) ⟨hf, trivial⟩ trivial ht K86 (by rw [h0.ren0]) ⟨hf, trivial⟩ ⟨lstB_flat FT, trivial⟩ (by first | (rw [lX_ren, lX_ren]; rfl) | (rw [lX_ren]; rfl) | rfl) ⟨rfl, trivial⟩ ⟨lstB_plain .., trivial⟩ ⟨lstB_plain .., trivial⟩ K85 (by first | (rw [lX_ren, lX_ren]; rfl) | (rw [lX_ren]; rfl) | rfl) ⟨lstB_flat FT, trivial⟩ ⟨lstB_flat (icR_flatC _), trivial⟩ (by first | (rw [lX_ren, lX_ren]; rfl) | (rw [lX_ren]; rfl) | rfl) ⟨lstB_plain .., trivial⟩ ⟨lstB_plain .., trivial⟩ ⟨lstB_plain .., trivial⟩ K87 (by rw [h0.ren0]) ⟨hf, trivial⟩ trivial K19 K17 ⟨flat_two _ _, trivial⟩ trivial E3 K88 (by rw [h0.ren0]) ⟨hf, trivial⟩ ⟨lstB_flat (icR_flatC _), trivial⟩ (by first | (rw [lX_ren, lX_ren]; rfl) | (rw [lX_ren]; rfl) | rfl) ⟨rfl, trivial⟩ ⟨lstB_plain .., trivial⟩ ⟨lstB_plain .., trivial⟩ K23 (by first | (rw [lX_ren, lX_ren]; rfl) | (rw [lX_ren]; rfl) | rfl) ⟨lstB_flat (icR_flatC _), lstB_flat (icR_flatC _), trivial⟩ trivial ⟨lstB_plain .., lstB_plain .., trivial⟩ trivial trivial K15 (fun j => outK_ret (ends_ret (by kernel_rfl))) (fun _ => undef))⟩
    · have hR : lostR n st l = ([], firstI [chkT n l, rngT 0 65535 st]) := by unfold lostR; rw [if_neg he]
      rw [hR] at K85
      have E3 : (firstI [chkT n l, rngT 0 65535 st] == 0) = false := by simpa using he
      generalize firstI [chkT n l, rngT 0 65535 st] = f3 at K85 K17 E3
      have K23 := k23n hE f3
      exact ⟨_, cOut_start Tryz.func11 rfl (c11B hE C N ty fl x0 st true f3 (chkT n l) (rngT 0 65535 st) f3 (lstX 1 19 l) (lstX 1 19 l) (lstX 0 19 l) (.v (.slice none 0 0)) (.v (.slice none 0 0)) (.v (.slice none 0 0)) (.v (.slice none 0 0)) (.v (.slice none 0 0)) (.v (.slice none 0 0)) (lstB 19 128 l) none none K84 (by rw [h0.ren0]) ⟨hf, trivial⟩ trivial ht K86 (by rw [h0.ren0]) ⟨hf, trivial⟩ ⟨lstB_flat FT, trivial⟩ (by first | (rw [lX_ren, lX_ren]; rfl) | (rw [lX_ren]; rfl) | rfl) ⟨rfl, trivial⟩ ⟨lstB_plain .., trivial⟩ ⟨lstB_plain .., trivial⟩ K85 (by first | (rw [lX_ren, lX_ren]; rfl) | (rw [lX_ren]; rfl) | rfl) ⟨lstB_flat FT, trivial⟩ ⟨trivial, trivial⟩ ⟨lstB_plain .., trivial⟩ ⟨rfl, trivial⟩ ⟨rfl, trivial⟩ K87 (by rw [h0.ren0]) ⟨hf, trivial⟩ trivial K19 K17 ⟨flat_two _ _, trivial⟩ trivial E3 K23 K15 (fun j => outK_ret (ends_ret (by kernel_rfl))) (fun _ => undef))⟩
end
end Go.Proofs.YthjgejgnaicdpaaGreatDoor
