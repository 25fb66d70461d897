/-
  culvertlaw15.TableSet
-/
import Derived.Test.YtcdgmbaimbmdmaaDoorLwA
import Derived.Test.YtcdgmbaimbmdmaaDoorOpenTb
import Derived.Deep.DeepCutAuto
namespace Go.Proofs.YtcdgmbaimbmdmaaDoor
open Go.RowKit Tbint

variable {A : Nat → Addr} {w w' W : World} {own own' : Nat → Nat} {p : Nat} {room : Int} {L : Tl Int} {I : Nat → Prop}

/-- a table above the ground -/
structure Ts (A : Nat → Addr) (w : World) (own : Nat → Nat) (W : World) (p : Nat) (room : Int) (L : Tl Int) : Prop where
  g : OnG A w own W
  t : TbO own 1 W p room L
theorem Ts.quiet (h : Ts A w own W p room L) (hk : Keeps Nowhere W w') : Ts A w own w' p room L := ⟨h.g.quiet hk, h.t.quiet hk⟩
theorem Ts.step (h : Ts A w own W p room L) (hk : Keeps Nowhere W w') (r : Nat) : Ts A w (give own W.heap.size r) w' p room L := ⟨h.g.sn (I := fun _ => False) (Sn.quiet hk r) (fun x => x), h.t.sn (I := fun _ => False) (Sn.quiet hk r) (fun x => x)⟩
theorem Ts.bel (h : Ts A w own W p room L) : Keeps Nowhere w W := Keeps.ofBelow h.g.g.bel

/-- an op of a script -/
theorem op_cells {zs : List OpV15} {a : Option Addr} {c i : Nat} {z : OpV15} (h : ListAt Op15Ok 3 w (.slice a zs.length c) zs) (hi : zs[i]? = some z) :
    ∃ b o, a = some ⟨b, o, none⟩ ∧ w.cell? ⟨b, o + i * 3, none⟩ = some (.int .i64 z.kind) ∧ w.cell? ⟨b, o + i * 3 + 1, none⟩ = some (.int .u32 (z.id : Nat)) ∧ w.cell? ⟨b, o + i * 3 + 2, none⟩ = some (.int .i64 z.v) ∧ z.id ≤ 4294967295 := by
  obtain ⟨a', c', e, _, _, h⟩ := h
  injection e with e1 _ e2
  subst e1
  obtain ⟨b, o, cs, rfl, ⟨rfl, hid⟩, _, hc⟩ := h i z hi
  exact ⟨b, o, rfl, hc 0 (by decide), hc 1 (by decide), hc 2 (by decide), hid⟩

theorem gotV_some {o : Option Int} {v : Int} (h : o = some v) : gotV o = .int .i64 v := by subst h; rfl

end Go.Proofs.YtcdgmbaimbmdmaaDoor
