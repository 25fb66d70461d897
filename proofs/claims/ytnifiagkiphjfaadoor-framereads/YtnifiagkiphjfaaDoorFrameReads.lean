/-
  FrameReads: the walk.
-/
import Derived.Test.YtnifiagkiphjfaaDoorFrameG
import Derived.Test.YtnifiagkiphjfaaDoorFrameFlags
import Derived.Test.YtnifiagkiphjfaaDoorOpenF
namespace Go.Proofs.YtnifiagkiphjfaaDoor
open Go.RowKit

/-- a list of bytes among the arguments -/
def BytesArg (w : World) (v : Value) (ns : List Int) : Prop := Rd w v ns ∧ AreBytes ns ∧ ns.length ≤ 140737488351232
theorem bytes_open {H : Type} {enc : TypeId × Value → H} {w : World} {base : Nat} {spare : Nat → Bool} {held : Bool} {fuel : Nat} {v : Value} {x : DataW H × List MemPlace} (h : DataW.trod enc Tryd.prog w base spare held fuel 32 [v] = some x) (hw : ∀ n ∈ x.1.weights Tryd.prog 32, n ≤ 140737488351232) :
    ∃ ns, BytesArg w v ns := bytes_of_trod h hw

theorem decode_a {A : Nat → Addr} {w : World} (v : Value) (ns : List Int) (hb : AreBytes ns) (W : World) (h : Aside (At4 A w W)) (hr : Aside (Rd W v ns)) :
    Calls Tryd.prog 22 #[v] W fun e w' => ∃ ev, e = .returned (.tuple #[dHdr ns, ev]) ∧ Aside (Coded A ev (dE ns)) ∧ Aside (At4 A w w') ∧ Aside (Below W.heap.size W w') :=
  (decode_any v ns W h.it.s hr.it hb).mono (by rintro e w' ⟨ev, rfl, hv, hb⟩; exact ⟨ev, rfl, hv, ⟨h.it.later hb⟩, ⟨hb⟩⟩)
theorem owns_none (w : World) : OwnB w.heap.size (w.alloc (.cells #[] 5)) (.slice (some ⟨w.heap.size, 0, none⟩) 0 0) [] := own_new w [] 0 rfl (Nat.le_refl _) (Nat.zero_le _)

set_option maxHeartbeats 4000000 in
theorem frameReads_walk {A : Nat → Addr} (v : Value) (ns : List Int) (w : World) (hs : At4 A w w) (hz : BytesArg w v ns) :
    Calls Tryd.prog 5 #[v] w fun e w' => e = .returned (.bool true) ∧ Below w.heap.size w w' := by
  obtain ⟨hr, hb, hl⟩ := hz
  have G0 := Aside.mk hs
  have R0 := Aside.mk hr
  have HL := Aside.mk hl
  have HBt := Aside.mk hb
  obtain ⟨a, c, hv⟩ := hr.shape
  subst hv
  clear hs hr hl hb
  go_enter Tryd.func5, Tryd.ntmps5
  go_wp2_with (first
    | (go_at_call 9; refine (awake_a _ G0).mono ?_; rintro e w1 ⟨rfl, G1⟩; have G1' := Aside.mk (G1.it.later (alloc_below w1 (.cells #[] 5))); have R1 := Aside.mk (R0.it.later G1'.it.b); have O1 := Aside.mk (owns_none w1))
    | (at_builtin; refine wpList_appendB rfl (.tmp 10) (.tmp 11) rfl w1.heap.size _ _ [] ns O1.it R1.it (by have := HL.it; show 0 + ns.length ≤ _; omega) (by simp) rfl rfl ?_; intro x2 w2 o2 k2; have G2 : Aside (At4 A w w2) := ⟨G1.it.later ((alloc_below _ _).trans k2.it)⟩; have R2 := Aside.mk o2.it.rd)
    | (go_at_call 22; refine (decode_a _ ns HBt.it _ G2 R2).mono ?_; rintro e w3 ⟨ev, rfl, V, G3, K3⟩; have B3 : Aside (Boxed A w w3.heap.size (dV ns) (dT ns) (dF ns) (dS ns) (dL ns) (w3.alloc (hbox (dV ns) (dT ns) (dF ns) (dS ns) (dL ns)))) := ⟨⟨G3.it.later (alloc_below _ _), HB.new w3 _ _ _ _ _⟩⟩; have R3 := Aside.mk (R0.it.later B3.it.a.b))
    | (go_at_call 23; refine (refDecode_any _ ns _ R3.it HBt.it).mono ?_; rintro e w4 ⟨rfl, K4⟩; have B4 := Aside.mk (B3.it.later K4); have S4 := Aside.mk (B4.it.a.later (alloc_below w4 (hbox (dV ns) (dT ns) (dF ns) (dS ns) (dL ns)))); have q0 := fun o => cell_alloc o B4.it.h.1; have q1 := fun o => cell_alloc o B4.it.h.2.1; have q2 := fun o => cell_alloc o B4.it.h.2.2.1; have q3 := fun o => cell_alloc o B4.it.h.2.2.2.1; have q4 := fun o => cell_alloc o B4.it.h.2.2.2.2; clear K4)
    | (go_at_call 11; refine (code_of S4.it.s V.it).mono ?_; rintro e w5 ⟨rfl, rfl⟩))
  go_ret
  exact ⟨rfl, S4.it.b⟩
end Go.Proofs.YtnifiagkiphjfaaDoor
