/-
  package trace: records, of, rest, New, Past
-/
import Derived.Test.YtambdgcogldbgaaDoorTrN
import Derived.Deep.QuietTactic
import Derived.Deep.RegionHeld3
import Derived.Deep.DeepCutAuto
namespace Go.Proofs.YtambdgcogldbgaaDoor
open Go.RowKit Go.Maps

variable {own own' : Nat → Nat} {i p T mb : Nat} {w w' : World} {L : Hs} {I : Nat → Prop} {k : Int} {b : Nat} {v : Value} {r : Rc} {F : Int → Option (Nat × Value)}

theorem records_at (pc : Cells w p 60 [.map (some mb)]) : Calls Tryd.prog 32 #[ptr p] w fun e w' => e = .returned (.map (some mb)) ∧ w' = w := by
  have c0 : w.cell? ⟨p, 0, none⟩ = some (.map (some mb)) := by rw [pc.cell]; rfl
  clear pc
  go_enter Tryd.func32, Tryd.ntmps32
  go_wp2
  go_ret
  exact ⟨rfl, rfl⟩
theorem records_nil (w : World) : Calls Tryd.prog 32 #[.pointer none] w fun e w' => e = .returned (.map none) ∧ w' = w := by
  go_enter Tryd.func32, Tryd.ntmps32
  go_wp2
  go_ret
  exact ⟨rfl, rfl⟩
theorem TrI.look (h : TrI w p mb L F) (hk : Zw k) : (Instr.lookup 58 (.map (some mb)) (.int .i64 k) true).run Tryd.prog w = .ok (.tuple #[vT ((F k).map (·.1)), .bool (F k).isSome]) w := by
  have := h.m.look hk
  simp only [Option.isSome_map] at this
  exact this
theorem of_raw {hv M : Value} {b : Nat} (P : Calls Tryd.prog 32 #[hv] w fun e w' => e = .returned M ∧ w' = w)
    (K : (Instr.lookup 58 M (.int .i64 k) true).run Tryd.prog w = .ok (.tuple #[ptr b, .bool true]) w) :
    Calls Tryd.prog 27 #[hv, .int .i64 k] w fun e w' => e = .returned (ptr b) ∧ w' = w := by
  have PP := Aside.mk P
  clear P
  go_enter Tryd.func27, Tryd.ntmps27
  go_wp2_with (first | (go_at_call 32; refine PP.it.mono ?_; rintro e w1 ⟨rfl, hw1⟩; subst hw1) | fail)
  go_ret
  exact ⟨rfl, rfl⟩
theorem of_rawN {hv M : Value} {x : Option Addr} (P : Calls Tryd.prog 32 #[hv] w fun e w' => e = .returned M ∧ w' = w)
    (K : (Instr.lookup 58 M (.int .i64 k) true).run Tryd.prog w = .ok (.tuple #[.pointer x, .bool false]) w) :
    Calls Tryd.prog 27 #[hv, .int .i64 k] w fun e w' => e = .returned (ptr w.heap.size) ∧ w' = w.alloc (.cells #[.int .i64 0, .int .i64 0, .bool false, .bool false, .slice none 0 0, .int .i64 0] 69) := by
  have PP := Aside.mk P
  clear P
  go_enter Tryd.func27, Tryd.ntmps27
  go_wp2_with (first | (go_at_call 32; refine PP.it.mono ?_; rintro e w1 ⟨rfl, hw1⟩; subst hw1) | fail)
  go_ret
  exact ⟨rfl, rfl⟩
theorem of_known (h : TrI w p mb L F) (hk : Zw k) (e : F k = some (b, v)) : Calls Tryd.prog 27 #[ptr p, .int .i64 k] w fun e w' => e = .returned (ptr b) ∧ w' = w := by
  refine of_raw (records_at h.pc) ?_
  have := h.look hk
  rw [e] at this
  exact this
theorem of_new (h : TrI w p mb L F) (hk : Zw k) (e : F k = none) : Calls Tryd.prog 27 #[ptr p, .int .i64 k] w fun e w' => e = .returned (ptr w.heap.size) ∧ w' = w.alloc (.cells #[.int .i64 0, .int .i64 0, .bool false, .bool false, .slice none 0 0, .int .i64 0] 69) := by
  refine of_rawN (x := none) (records_at h.pc) ?_
  have := h.look hk
  rw [e] at this
  exact this
theorem of_nil (w : World) (hk : Zw k) : Calls Tryd.prog 27 #[.pointer none, .int .i64 k] w fun e w' => e = .returned (ptr w.heap.size) ∧ w' = w.alloc (.cells #[.int .i64 0, .int .i64 0, .bool false, .bool false, .slice none 0 0, .int .i64 0] 69) :=
  of_rawN (x := none) (records_nil w) (look_none w hk)
/-- what 'of' gives: a box b with the key's record, known or new -/
structure OfA (w w1 : World) (F : Int → Option (Nat × Value)) (k : Int) (b : Nat) (v : Value) (r : Rc) : Prop where
  r : RecA w1 b v r
  kp : Keeps Nowhere w w1
  hb : (F k = some (b, v)) ∨ (F k = none ∧ w.heap.size ≤ b)
  hv : ∀ g, v.ownBlock = some g → F k = some (b, v)
theorem RecA.new (w : World) : RecA (w.alloc (.cells #[.int .i64 0, .int .i64 0, .bool false, .bool false, .slice none 0 0, .int .i64 0] 69)) w.heap.size (.slice none 0 0) rc0 :=
  ⟨[], 0, Cells.new w _ [.int .i64 0, .int .i64 0, .bool false, .bool false, .slice none 0 0, .int .i64 0], World.ownsRow_nil _ _ _ _, Nat.le_refl _, rfl, Nat.le_refl _⟩
theorem of_any (h : TrI w p mb L F) (hk : Zw k) : Calls Tryd.prog 27 #[ptr p, .int .i64 k] w fun e w' => ∃ b v, e = .returned (ptr b) ∧ Aside (OfA w w' F k b v (got L k)) := by
  cases e : F k with
  | none =>
    refine (of_new h hk e).mono ?_
    rintro _ _ ⟨rfl, rfl⟩
    have hg : tget L k = none := by
      have := h.dom k
      rw [e] at this
      cases hl : tget L k with
      | none => rfl
      | some r => rw [hl] at this; cases this
    refine ⟨w.heap.size, .slice none 0 0, rfl, ⟨?_, (Keeps.refl _ _).alloc _, .inr ⟨e, Nat.le_refl _⟩, fun g hg => by simp [Value.ownBlock] at hg⟩⟩
    rw [show got L k = rc0 by unfold got; rw [hg]; rfl]
    exact RecA.new w
  | some x =>
    obtain ⟨b, v⟩ := x
    refine (of_known h hk e).mono ?_
    rintro _ _ ⟨rfl, rfl⟩
    obtain ⟨r, hl, hr⟩ := h.rcd e
    refine ⟨b, v, rfl, ⟨?_, Keeps.refl _ _, .inl e, fun g hg => e⟩⟩
    rw [show got L k = r by unfold got; rw [hl]; rfl]
    exact hr
theorem rest_at (h : RecA w b v r) : Calls Tryd.prog 29 #[ptr b] w fun e w' => ∃ q c, e = .returned (.slice q r.rest.length c) ∧ Aside (Rd w (.slice q r.rest.length c) r.rest ∧ ∀ g, (Value.slice q r.rest.length c).ownBlock = some g → v.ownBlock = some g) ∧ Aside (Keeps Nowhere w w') ∧ Aside (r.rest.length ≤ c) := by
  obtain ⟨ns, gone, hc, hr, hg, hd, hl⟩ := h
  obtain ⟨q, c, rfl⟩ := OwnB.shape (B := 0) hr
  have hcap : ns.length ≤ c := by
    obtain ⟨⟨a, c', e, hlc, _⟩, _⟩ := OwnB.rd (B := 0) hr
    injection e with _ e2 e3
    rw [bv_length] at hlc
    omega
  have RD := Aside.mk (RdS.drop (S := Nowhere) (n := gone) (OwnB.rd (B := 0) hr) hg)
  rw [hd] at RD
  obtain ⟨n, hn⟩ : ∃ n, ns.length = n := ⟨_, rfl⟩
  have hlen : r.rest.length = n - gone := by rw [← hd, List.length_drop, hn]
  rw [hlen]
  rw [hn] at RD hg hcap hc ⊢
  have c4 : w.cell? ⟨b, 4, none⟩ = some (.slice q n c) := by rw [hc.cell]; rfl
  have c5 : w.cell? ⟨b, 5, none⟩ = some (.int .i64 gone) := by rw [hc.cell]; rfl
  have hB : c ≤ 9223372036854775807 := by
    rcases hr.2 with ⟨e, _⟩ | ⟨g, cap, cur, e, _, _, _, hm, _⟩
    · injection e with _ _ e; omega
    · injection e with _ _ e
      subst e
      unfold maxLen at hm
      omega
  have g1 : (gone : Int) ≤ (n : Int) := by omega
  have g2 : (n : Int) ≤ (c : Int) := by omega
  have g3 : (c : Int) ≤ 9223372036854775807 := by omega
  have HQ : Aside (∀ g, (Value.slice (if c = gone then q else q.map (·.add gone)) (n - gone) (c - gone)).ownBlock = some g → (Value.slice q n c).ownBlock = some g) := ⟨by
    intro g
    split
    · cases q with
      | none => exact fun h => by simp [Value.ownBlock] at h
      | some a => exact fun h => h
    · cases q with
      | none => exact fun h => by simp [Value.ownBlock] at h
      | some a => exact fun h => by simp only [Value.ownBlock, Option.map_some, add_block] at h ⊢; exact h⟩
  clear hr hc hd hl hlen hn hB
  go_enter Tryd.func29, Tryd.ntmps29
  by_cases hcg : c = gone
  · simp only [hcg, if_true] at RD HQ
    have hng : n = gone := by omega
    subst hcg
    subst hng
    simp only [Nat.sub_self] at RD HQ ⊢
    go_wp2
    go_region
    go_wp2
    go_ret
    refine ⟨_, _, rfl, ⟨RD.it, HQ.it⟩, ⟨(Keeps.refl _ _).drew⟩, ⟨?_⟩⟩
    omega
  · simp only [hcg, if_false] at RD HQ
    go_wp2
    go_region
    go_wp2
    go_ret
    refine ⟨_, _, rfl, ⟨RD.it, HQ.it⟩, ⟨(Keeps.refl _ _).drew⟩, ⟨?_⟩⟩
    omega
theorem mk_mapT (w : World) : (Instr.makeMap 58 none).run Tryd.prog w = .ok (.map (some w.heap.size)) (w.alloc (.map #[] 0)) := by kernel_rfl
theorem newT (w : World) (own : Nat → Nat) (i : Nat) : Calls Tryd.prog 5 #[] w fun e w' => ∃ p own', e = .returned (ptr p) ∧ Aside (TrO own' i w' p 0 [] ∧ w.heap.size ≤ p ∧ Sn (fun _ => False) own w own' w') := by
  have h1 := mk_mapT w
  go_enter Tryd.func5, Tryd.ntmps5
  go_wp2
  go_ret
  have K : Keeps Nowhere w ((w.alloc (.map #[] 0)).alloc (.cells #[.map (some w.heap.size)] 60)) := ((Keeps.refl _ _).alloc _).alloc _
  have C := Cells.new (w.alloc (.map #[] 0)) 60 [.map (some w.heap.size)]
  rw [World.size_alloc] at C
  refine ⟨w.heap.size + 1, give own w.heap.size i, rfl, ⟨⟨⟨w.heap.size, fun _ => none, ⟨C, fun _ => rfl, (MapT.made w).later (S := Nowhere) ((Keeps.refl _ _).alloc _) (fun x => x), fun _ _ _ _ e => (by cases e), fun _ _ _ _ _ _ e => (by cases e)⟩, give_new (by omega), give_new (Nat.le_refl _), fun _ _ _ e => (by cases e)⟩, TOk.nil 0, Nat.zero_le _⟩, by omega, Sn.quiet K i⟩⟩
end Go.Proofs.YtambdgcogldbgaaDoor
