/-
  package table at int: a table in memory by its owner; held, Len, Get, Put, Drop, Clear, New
-/
import Derived.Test.YtcdgmbaimbmdmaaDoorTbMint
import Derived.Test.YtcdgmbaimbmdmaaDoorSn
import Derived.Test.YtcdgmbaimbmdmaaDoorCodedZ
import Derived.Handy
import Derived.BigQuiet
import Derived.Deep.QuietTactic
namespace Go.Proofs.YtcdgmbaimbmdmaaDoor.Tbint
open Go.RowKit Go.Maps

def tcel (room : Int) (mb : Nat) : List Value := [.int .i64 room, .map (some mb)]
/-- a table in memory: its box and its map are i's -/
structure TbO (own : Nat → Nat) (i : Nat) (w : World) (p : Nat) (room : Int) (L : Tl Int) : Prop where
  it : ∃ mb, CellsO own i w p 55 (tcel room mb) ∧ MapV w mb L ∧ own mb = i
  up : Up L

variable {own own' : Nat → Nat} {i p k : Nat} {w w' : World} {room : Int} {L : Tl Int} {I : Nat → Prop} {A : Nat → Addr}

theorem TbO.sn (h : TbO own i w p room L) (s : Sn I own w own' w') (hi : ¬ I i) : TbO own' i w' p room L := by
  obtain ⟨mb, hc, hm, hb⟩ := h.it
  refine ⟨⟨mb, hc.sn s hi, hm.later s.keeps (fun e => hi (by rw [← hb]; exact e)), (s.agree mb hm.lt).trans hb⟩, h.up⟩
theorem TbO.quiet (h : TbO own i w p room L) (hk : Keeps Nowhere w w') : TbO own i w' p room L := h.sn (I := fun _ => False) (Sn.same hk) (fun x => x)

theorem held_raw {mb : Nat} (hc : Cells w p 55 (tcel room mb)) : Calls Tryd.prog 25 #[ptr p] w fun e w' => e = .returned (.map (some mb)) ∧ w' = w := by
  have c1 : w.cell? ⟨p, 1, none⟩ = some (.map (some mb)) := by rw [hc.cell]; rfl
  clear hc
  go_enter Tryd.func25, Tryd.ntmps25
  go_wp2
  go_ret
  exact ⟨rfl, rfl⟩
theorem held_nil (w : World) : Calls Tryd.prog 25 #[.pointer none] w fun e w' => e = .returned (.map none) ∧ w' = w := by
  go_enter Tryd.func25, Tryd.ntmps25
  go_wp2
  go_ret
  exact ⟨rfl, rfl⟩
theorem len_at (h : TbO own i w p room L) : Calls Tryd.prog 19 #[ptr p] w fun e w' => e = .returned (.int .i64 L.length) ∧ w' = w := by
  obtain ⟨mb, hc, hm, _⟩ := h.it
  have hh := held_raw hc.1
  have hl : ∀ ty, (Builtin.len_ #[53] ty #[.map (some mb)]).run Tryd.prog w = .ok (.int .i64 L.length) w := hm.len
  clear hc hm h
  go_enter Tryd.func19, Tryd.ntmps19
  go_wp2_with (go_at_call 25; refine hh.mono ?_; rintro e w1 ⟨rfl, rfl⟩)
  go_ret
  exact ⟨rfl, rfl⟩
theorem len_nil (w : World) : Calls Tryd.prog 19 #[.pointer none] w fun e w' => e = .returned (.int .i64 0) ∧ w' = w := by
  have hh := held_nil w
  have hl : ∀ ty, (Builtin.len_ #[53] ty #[.map none]).run Tryd.prog w = .ok (.int .i64 0) w := fun ty => Maps.len_nil Tryd.underlying53 ty
  go_enter Tryd.func19, Tryd.ntmps19
  go_wp2_with (go_at_call 25; refine hh.mono ?_; rintro e w1 ⟨rfl, rfl⟩)
  go_ret
  exact ⟨rfl, rfl⟩
theorem get_at (h : TbO own i w p room L) (hk : k ≤ 4294967295) : Calls Tryd.prog 11 #[ptr p, .int .u32 k] w fun e w' => e = .returned (.tuple #[gotV (tlook L k), .bool (tlook L k).isSome]) ∧ w' = w := by
  obtain ⟨mb, hc, hm, _⟩ := h.it
  have hh := held_raw hc.1
  have hl := hm.look hk
  generalize gotV (tlook L k) = gv at hl ⊢
  generalize (tlook L k).isSome = gb at hl ⊢
  clear hc hm h
  go_enter Tryd.func11, Tryd.ntmps11
  go_wp2_with (go_at_call 25; refine hh.mono ?_; rintro e w1 ⟨rfl, rfl⟩)
  go_ret2
  exact ⟨rfl, rfl⟩
theorem get_nil (w : World) (hk : k ≤ 4294967295) : Calls Tryd.prog 11 #[.pointer none, .int .u32 k] w fun e w' => e = .returned (.tuple #[.int .i64 0, .bool false]) ∧ w' = w := by
  have hh := held_nil w
  have hl : (Instr.lookup 53 (.map none) (.int .u32 k) true).run Tryd.prog w = .ok (.tuple #[.int .i64 0, .bool false]) w := by
    have := Maps.look_nil (w := w) true keyed_ Tryd.underlying53 (zero_ w) (keyOf_ hk)
    simpa using this
  go_enter Tryd.func11, Tryd.ntmps11
  go_wp2_with (go_at_call 25; refine hh.mono ?_; rintro e w1 ⟨rfl, rfl⟩)
  go_ret2
  exact ⟨rfl, rfl⟩
theorem drop_at (h : TbO own i w p room L) (hk : k ≤ 4294967295) : Calls Tryd.prog 18 #[ptr p, .int .u32 k] w fun e w' => e = .returned (.tuple #[gotV (tlook L k), .bool (tlook L k).isSome]) ∧ Aside (TbO own i w' p room (tdel L k) ∧ Sn (fun k => k = i) own w own w') := by
  have hg := get_at h hk
  obtain ⟨mb, hc, hm, hb⟩ := h.it
  have hh := held_raw hc.1
  obtain ⟨w1, hd, hm1, hk1⟩ := hm.drop h.up hk
  have F : Aside (TbO own i w1 p room (tdel L k) ∧ Sn (fun k => k = i) own w own w1) := by
    obtain ⟨es, clock, hmb⟩ := hm.isMap
    have hne : p ≠ mb := fun e => by have := hc.1; unfold Cells at this; rw [e, hmb] at this; cases this
    exact ⟨⟨⟨mb, ⟨hc.1.later hk1 hne, hc.2⟩, hm1, hb⟩, up_tdel h.up k⟩, ⟨fun _ _ => rfl, hk1.mono (fun x e _ => by rw [e]; exact hb)⟩⟩
  generalize gotV (tlook L k) = gv at hg ⊢
  generalize (tlook L k).isSome = gb at hg ⊢
  clear hc hm h hb hm1 hk1
  go_enter Tryd.func18, Tryd.ntmps18
  go_wp2_with (first | (go_at_call 11; refine hg.mono ?_; rintro e w1 ⟨rfl, rfl⟩) | (go_at_call 25; refine hh.mono ?_; rintro e w1 ⟨rfl, rfl⟩))
  go_ret2
  exact ⟨rfl, F⟩
theorem drop_nil (w : World) (hk : k ≤ 4294967295) : Calls Tryd.prog 18 #[.pointer none, .int .u32 k] w fun e w' => e = .returned (.tuple #[.int .i64 0, .bool false]) ∧ w' = w := by
  have hg := get_nil w hk
  have hh := held_nil w
  have hd : ∀ ty, (Builtin.delete_ #[53, 36] ty #[.map none, .int .u32 k]).run Tryd.prog w = .ok (.tuple #[]) w := fun ty => Maps.drop_nil keyed_ Tryd.underlying53 (keyOf_ hk) ty
  go_enter Tryd.func18, Tryd.ntmps18
  go_wp2_with (first | (go_at_call 11; refine hg.mono ?_; rintro e w1 ⟨rfl, rfl⟩) | (go_at_call 25; refine hh.mono ?_; rintro e w1 ⟨rfl, rfl⟩))
  go_ret2
  exact ⟨rfl, rfl⟩
theorem mk_map (w : World) : (Instr.makeMap 53 none).run Tryd.prog w = .ok (.map (some w.heap.size)) (w.alloc (.map #[] 0)) := by kernel_rfl
theorem new_ok (room : Int) (h0 : 0 ≤ room) (w : World) (own : Nat → Nat) (i : Nat) : Calls Tryd.prog 5 #[.int .i64 room] w fun e w' => ∃ p own', e = .returned (.tuple #[ptr p, .nilIface]) ∧ Aside (TbO own' i w' p room [] ∧ w.heap.size ≤ p ∧ Sn (fun _ => False) own w own' w') := by
  have h1 : ¬ room < 0 := by omega
  have hm := mk_map w
  go_enter Tryd.func5, Tryd.ntmps5
  go_wp2
  go_ret2
  have K : Keeps Nowhere w ((w.alloc (.map #[] 0)).alloc (.cells #[.int .i64 room, .map (some w.heap.size)] 55)) := ((Keeps.refl _ _).alloc _).alloc _
  refine ⟨w.heap.size + 1, rfl, give own w.heap.size i, ⟨⟨⟨w.heap.size, ⟨?_, give_new (by omega)⟩, (MapV.made w).later (S := Nowhere) ((Keeps.refl _ _).alloc _) (fun x => x), give_new (Nat.le_refl _)⟩, Up.nil⟩, by omega, Sn.quiet K i⟩⟩
  have := Cells.new (w.alloc (.map #[] 0)) 55 (tcel room w.heap.size)
  rw [World.size_alloc] at this
  exact this
theorem new_no (room : Int) (h0 : room < 0) (w : World) (hs : Sents 110 codeVars A w) : Calls Tryd.prog 5 #[.int .i64 room] w fun e w' => e = .returned (.tuple #[.pointer none, .iface 110 (.pointer (some (A 1)))]) ∧ Aside (Keeps Nowhere w w') := by
  have hc := hs.cell 1 0 rfl
  clear hs
  go_enter Tryd.func5, Tryd.ntmps5
  go_wp2
  go_quiet (fail)
  go_wp2
  go_ret2
  exact ⟨rfl, ⟨(Keeps.refl _ _).drewN _⟩⟩
theorem put_nil (v : Int) (w : World) (hs : Sents 110 codeVars A w) : Calls Tryd.prog 10 #[.pointer none, .int .u32 k, .int .i64 v] w fun e w' => e = .returned (.iface 110 (.pointer (some (A 0)))) ∧ w' = w := by
  have hc := hs.cell 0 1 rfl
  clear hs
  go_enter Tryd.func10, Tryd.ntmps10
  go_wp2
  go_ret
  exact ⟨rfl, rfl⟩
/-- what Put answers -/
def putC (room : Int) (L : Tl Int) (k : Nat) : Int := if (tlook L k).isSome then 8 else if room ≤ L.length then 6 else 0
def putL (room : Int) (L : Tl Int) (k : Nat) (v : Int) : Tl Int := if (tlook L k).isSome then L else if room ≤ L.length then L else tput L k v
theorem put_at (h : TbO own i w p room L) (hk : k ≤ 4294967295) (v : Int) (hs : Sents 110 codeVars A w) :
    Calls Tryd.prog 10 #[ptr p, .int .u32 k, .int .i64 v] w fun e w' => ∃ ev, e = .returned ev ∧ Hid (Coded A ev (putC room L k)) ∧ Aside (TbO own i w' p room (putL room L k v) ∧ Sn (fun k => k = i) own w own w') := by
  have hg := get_at h hk
  have s7 := hs.cell 7 2 rfl
  have s5 := hs.cell 5 3 rfl
  have H := Aside.mk h
  unfold putC putL
  cases hl : (tlook L k).isSome with
  | true =>
    rw [hl] at hg
    simp only [if_true]
    generalize gotV (tlook L k) = gv at hg
    clear h hs s5
    go_enter Tryd.func10, Tryd.ntmps10
    go_wp2_with (first | (go_at_call 11; refine hg.mono ?_; rintro e w1 ⟨rfl, rfl⟩))
    go_ret
    exact ⟨_, rfl, Coded.mk 7 8 (by decide) (by decide) rfl, ⟨H.it, Sn.refl _ _ _⟩⟩
  | false =>
    rw [hl] at hg
    have hl' : tlook L k = none := by simpa using hl
    simp only [Bool.false_eq_true, if_false]
    generalize gotV (tlook L k) = gv at hg
    have hn := len_at h
    obtain ⟨mb, hc, hm, hb⟩ := h.it
    have c0 : w.cell? ⟨p, 0, none⟩ = some (.int .i64 room) := by rw [hc.1.cell]; rfl
    have c1 : w.cell? ⟨p, 1, none⟩ = some (.map (some mb)) := by rw [hc.1.cell]; rfl
    have hcl := H.it.up
    have NN : ∀ q, Calls Tryd.prog 19 #[ptr p] (w.drewN q) fun e w' => e = .returned (.int .i64 L.length) ∧ w' = w.drewN q := fun q => len_at (h.quiet ((Keeps.refl _ _).drewN q))
    by_cases hr : room ≤ L.length
    · simp only [hr, if_true]
      clear h hs hc hm hb
      obtain ⟨n, hn'⟩ : ∃ n, L.length = n := ⟨_, rfl⟩
      rw [hn'] at NN hr
      have hd : decide (room ≤ (n : Int)) = true := decide_eq_true hr
      go_enter Tryd.func10, Tryd.ntmps10
      go_wp2_with (first | (go_at_call 11; refine hg.mono ?_; rintro e w1 ⟨rfl, rfl⟩))
      go_quiet (first | (go_at_call 19; refine Calls.quiet_of_same (NN _)))
      go_wp2_with fail
      go_ret
      exact ⟨_, rfl, Coded.mk 5 6 (by decide) (by decide) rfl, ⟨H.it.quiet ((Keeps.refl _ _).drewN _), Sn.same ((Keeps.refl _ _).drewN _)⟩⟩
    · simp only [hr, if_false]
      have LU := up_len H.it.up
      have ST : ∀ q, ∃ w', (Instr.mapUpdate 53 (.map (some mb)) (e32 k) (vv v)).run Tryd.prog (w.drewN q) = .ok () w' ∧ Aside (TbO own i w' p room (tput L k v) ∧ Sn (fun k => k = i) own w own w') := fun q => by
        obtain ⟨w1, hrun, hm1, hk1⟩ := (hm.later (S := Nowhere) ((Keeps.refl _ _).drewN q) (fun x => x)).store (Nat.lt_of_le_of_lt LU (by decide)) hk hl' v
        obtain ⟨es, clock, hmb⟩ := hm.isMap
        have hne : p ≠ mb := fun e => by have := hc.1; unfold Cells at this; rw [e, hmb] at this; cases this
        exact ⟨w1, hrun, ⟨⟨mb, ⟨(hc.1.drewN q).later hk1 hne, hc.2⟩, hm1, hb⟩, up_tput hcl v hl' hk⟩, ⟨fun _ _ => rfl, (hk1.undrewN).mono (fun x e _ => by rw [e]; exact hb)⟩⟩
      clear h hs hc hm hb
      obtain ⟨n, hn'⟩ : ∃ n, L.length = n := ⟨_, rfl⟩
      rw [hn'] at NN hr
      have hd : decide (room ≤ (n : Int)) = false := decide_eq_false hr
      go_enter Tryd.func10, Tryd.ntmps10
      go_wp2_with (first | (go_at_call 11; refine hg.mono ?_; rintro e w1 ⟨rfl, rfl⟩))
      go_quiet (first | (go_at_call 19; refine Calls.quiet_of_same (NN _)))
      obtain ⟨w2, hup, F⟩ := ST nq
      go_wp2_with fail
      go_ret
      exact ⟨_, rfl, Coded.none, F⟩
end Go.Proofs.YtcdgmbaimbmdmaaDoor.Tbint
