/-
  layer 24's laws: the boxes of a round
-/
import Derived.Test.YteojdangidnnkaaDoorTrQ
namespace Go.Proofs.YteojdangidnnkaaDoor
open Go.RowKit Go.Maps

variable {A : Nat → Addr} {w w' w0 W : World} {own own' : Nat → Nat} {r : Rc} {L Lg : Hs} {ph pg T ob : Nat} {kd ky n : Int} {nx : Bool} {sl bv' : Value} {ms : List Int}
theorem Kw.op (h : Aside (Kw A w0 own W ph pg T L Lg [(ob, 31, [.int .i64 kd, .int .i64 ky, .int .i64 n, .bool nx, sl])] bv' ms)) : W.cell? ⟨ob, 1, none⟩ = some (.int .i64 ky) ∧ W.cell? ⟨ob, 4, none⟩ = some sl := by
  have h := (h.it.x _ List.mem_cons_self).1
  exact ⟨by rw [h.cell]; rfl, by rw [h.cell]; rfl⟩
theorem Kw.op5 (h : Aside (Kw A w0 own W ph pg T L Lg [(ob, 31, [.int .i64 kd, .int .i64 ky, .int .i64 n, .bool nx, sl])] bv' ms)) : W.cell? ⟨ob, 0, none⟩ = some (.int .i64 kd) ∧ W.cell? ⟨ob, 1, none⟩ = some (.int .i64 ky) ∧ W.cell? ⟨ob, 2, none⟩ = some (.int .i64 n) ∧ W.cell? ⟨ob, 3, none⟩ = some (.bool nx) ∧ W.cell? ⟨ob, 4, none⟩ = some sl := by
  have h := (h.it.x _ List.mem_cons_self).1
  exact ⟨by rw [h.cell]; rfl, by rw [h.cell]; rfl, by rw [h.cell]; rfl, by rw [h.cell]; rfl, by rw [h.cell]; rfl⟩
abbrev pastC (wl rd : Nat) (cl en : Bool) : List Value := [.int .i64 wl, .int .i64 rd, .bool cl, .bool en]
theorem Kw.two {pb qb wl rd : Nat} {cl en : Bool} (h : Aside (Kw A w0 own W ph pg T L Lg [(qb, 47, pastC wl rd cl en), (pb, 47, pastC wl rd cl en)] bv' ms)) : W.cell? ⟨pb, 0, none⟩ = some (.int .i64 wl) ∧ W.cell? ⟨pb, 1, none⟩ = some (.int .i64 rd) ∧ W.cell? ⟨pb, 2, none⟩ = some (.bool cl) ∧ W.cell? ⟨pb, 3, none⟩ = some (.bool en) ∧ W.cell? ⟨qb, 0, none⟩ = some (.int .i64 wl) ∧ W.cell? ⟨qb, 1, none⟩ = some (.int .i64 rd) ∧ W.cell? ⟨qb, 2, none⟩ = some (.bool cl) ∧ W.cell? ⟨qb, 3, none⟩ = some (.bool en) := by
  have h1 := (h.it.x _ List.mem_cons_self).1
  have h2 := (h.it.x _ (List.mem_cons_of_mem _ List.mem_cons_self)).1
  exact ⟨by rw [h2.cell]; rfl, by rw [h2.cell]; rfl, by rw [h2.cell]; rfl, by rw [h2.cell]; rfl, by rw [h1.cell]; rfl, by rw [h1.cell]; rfl, by rw [h1.cell]; rfl, by rw [h1.cell]; rfl⟩
end Go.Proofs.YteojdangidnnkaaDoor
