import Derived.Test.YthjeeianlgkaaaaDoorLuMltt
import Derived.Test.YthjeeianlgkaaaaDoorChecked
import Derived.Test.YthjeeianlgkaaaaDoorCode
import Derived.Defers
import Derived.Recover
import Derived.BigQuiet
import Derived.ChangeKeysEq
import Derived.Deep.Cut
import Derived.Deep.RegionHeld3
import Derived.Deep.RegionHeldLaw
import Derived.Deep.DeepCutAuto
import Derived.LaidEqlPtr
import Derived.Test.YthjeeianlgkaaaaDoorRowsS
import Derived.OwnWalk
import Derived.Test.YthjeeianlgkaaaaDoorMkB
/-
  package lru (ltt): a cache in memory; find, Len, Weight, New, tooOld
-/
namespace Go.Proofs.YthjeeianlgkaaaaDoor.Lultt
open Go.RowKit

/-- the blocks of a list, their things and their neighbours -/
def Sts (w : World) (l : List Nat) (f : Nat → Rx) (pf nf : Nat → Option Nat) : Prop := ∀ b ∈ l, Cells w b 92 (tc (f b) (vF (pf b)) (vF (nf b)))
structure CaI (w : World) (c mb eb : Nat) (l : List Nat) (f : Nat → Rx) (pf nf : Nat → Option Nat) (room : Int) : Prop where
  box : Cells w c 95 [.int .i64 room, .int .i64 (sumL (l.map f)), .map (some mb), ptr eb]
  map : MapB w mb l.length (fk l (fun b => (f b).k))
  sts : Sts w (eb :: l) f pf nf
  nodup : (eb :: l).Nodup
  ring : Rg (eb :: l) pf nf
  ok : LOk room (l.map f)
/-- a cache by its owner: its box, its table, its things -/
def CaO (own : Nat → Nat) (i : Nat) (w : World) (c : Nat) (room : Int) (L : List Rx) : Prop :=
  ∃ mb eb l f pf nf, CaI w c mb eb l f pf nf room ∧ own c = i ∧ own mb = i ∧ (∀ b ∈ eb :: l, own b = i) ∧ L = l.map f

variable {w w' : World} {own own' : Nat → Nat} {i c mb eb s b p q j : Nat} {l : List Nat} {f : Nat → Rx} {pf nf : Nat → Option Nat} {room k now : Int} {L : List Rx} {I : Nat → Prop} {A : Nat → Addr}

theorem CaI.later {S : Nat → Prop} (h : CaI w c mb eb l f pf nf room) (hk : Keeps S w w') (h1 : ¬ S c) (h2 : ¬ S mb) (h3 : ∀ b ∈ eb :: l, ¬ S b) : CaI w' c mb eb l f pf nf room :=
  ⟨h.box.later hk h1, h.map.later hk h2, fun b hb => (h.sts b hb).later hk (h3 b hb), h.nodup, h.ring, h.ok⟩
theorem CaI.quiet (h : CaI w c mb eb l f pf nf room) (hk : Keeps Nowhere w w') : CaI w' c mb eb l f pf nf room := h.later hk (fun x => x) (fun x => x) (fun _ _ x => x)
theorem CaO.sn (h : CaO own i w c room L) (s : Sn I own w own' w') (hi : ¬ I i) : CaO own' i w' c room L := by
  obtain ⟨mb, eb, l, f, pf, nf, h, h1, h2, h3, e⟩ := h
  refine ⟨mb, eb, l, f, pf, nf, h.later s.keeps (fun x => hi (h1 ▸ x)) (fun x => hi (h2 ▸ x)) (fun b hb x => hi (h3 b hb ▸ x)), (s.agree _ h.box.lt).trans h1, (s.agree _ h.map.lt).trans h2, fun b hb => (s.agree _ (h.sts b hb).lt).trans (h3 b hb), e⟩
theorem CaO.quiet (h : CaO own i w c room L) (k : Keeps Nowhere w w') : CaO own i w' c room L := h.sn (I := fun _ => False) (Sn.same k) (fun x => x)
theorem CaO.lok (h : CaO own i w c room L) : LOk room L := by
  obtain ⟨mb, eb, l, f, pf, nf, h, _, _, _, rfl⟩ := h
  exact h.ok
theorem CaI.inj (h : CaI w c mb eb l f pf nf room) : ∀ b ∈ l, ∀ c ∈ l, (f b).k = (f c).k → b = c := inj_of_nodup h.ok.one
theorem CaI.kyOf (h : CaI w c mb eb l f pf nf room) (hb : b ∈ l) : Ky (f b).k := (h.ok.ok _ (List.mem_map.2 ⟨b, hb, rfl⟩)).k
theorem CaI.okOf (h : CaI w c mb eb l f pf nf room) (hb : b ∈ l) : (f b).Ok := h.ok.ok _ (List.mem_map.2 ⟨b, hb, rfl⟩)
theorem map_ne {n : Nat} {F : Int → Option Nat} {e : TypeId} {xs : List Value} (h : MapB w mb n F) (hc : Cells w b e xs) : mb ≠ b := by
  rintro rfl
  obtain ⟨es, c, h1⟩ := h.isMap
  rw [hc] at h1
  cases h1
theorem ne_box {xs ys : List Value} (h1 : Cells w c 95 xs) (h2 : Cells w b 92 ys) : c ≠ b := by
  rintro rfl
  have := h1.symm.trans h2
  simp at this
theorem CaI.box_ne (h : CaI w c mb eb l f pf nf room) : ∀ b ∈ eb :: l, c ≠ b := fun b hb => ne_box h.box (h.sts b hb)
theorem CaI.map_ne (h : CaI w c mb eb l f pf nf room) : ∀ b ∈ eb :: l, mb ≠ b := fun b hb => Lultt.map_ne h.map (h.sts b hb)
theorem CaI.map_box (h : CaI w c mb eb l f pf nf room) : mb ≠ c := Lultt.map_ne h.map h.box


/-- the deferred closure, where nothing has panicked -/
theorem catch_idle (w : World) : CallsD Tryd.prog 65 #[] .returning w fun e u' w' => e = .returned (.tuple #[]) ∧ u' = .returning ∧ w' = w := by
  refine callsD_of_wpS Tryd.func65 rfl fun c₀ cs hu => ?_
  apply wpS_region
  cases c₀
  simp_all [wpOpsS, go_sem, recoverD, Tryd.ntmps65, bodyPostS, results, Tryd.results65]
theorem find_ (h : CaI w c mb eb l f pf nf room) (hk : Ky k) :
    Calls Tryd.prog 53 #[ptr c, kv k] w fun e w' => e = .returned (.tuple #[vF (fk l (fun b => (f b).k) k), .bool true]) ∧ w' = w := by
  have c0 : w.cell? ⟨c, 2, none⟩ = some (.map (some mb)) := h.box.cell 2
  have hl := h.map.look hk
  
  go_enter_defers Tryd.func53, Tryd.ntmps53
  go_wp2
  refine leaves_cons (f := 65) (args := #[]) (by simp) (by simp [go_sem]) ?_
  refine (catch_idle _).mono ?_
  rintro e u' w'' ⟨rfl, rfl, rfl⟩
  simp [Leaves, settle, results, Tryd.results53, go_sem]
theorem find_nil (k : Int) (w : World) : Calls Tryd.prog 53 #[.pointer none, kv k] w fun e w' => e = .returned (.tuple #[.pointer none, .bool false]) ∧ w' = w := by
  go_enter_defers Tryd.func53, Tryd.ntmps53
  go_wp2
  simp [bodyPostD, Leaves, results, Tryd.results53, go_sem]
theorem weight_ (h : CaI w c mb eb l f pf nf room) : Calls Tryd.prog 34 #[ptr c] w fun e w' => e = .returned (.int .i64 (sumL (l.map f))) ∧ w' = w := by
  have c0 : w.cell? ⟨c, 1, none⟩ = some (.int .i64 (sumL (l.map f))) := h.box.cell 1
  go_enter Tryd.func34, Tryd.ntmps34
  go_wp2
  go_ret
  exact ⟨rfl, rfl⟩
theorem lweight_nil (w : World) : Calls Tryd.prog 34 #[.pointer none] w fun e w' => e = .returned (.int .i64 0) ∧ w' = w := by
  go_enter Tryd.func34, Tryd.ntmps34
  go_wp2
  go_ret
  exact ⟨rfl, rfl⟩
theorem tooOld_ {x : Rx} {a1 a2 : Value} (h : Cells w b 92 (tc x a1 a2)) (now : Int) : Calls Tryd.prog 54 #[ptr b, .int .i64 now] w fun e w' => e = .returned (.bool (!decide (now < x.u))) ∧ w' = w := by
  have c0 : w.cell? ⟨b, 3, none⟩ = some (.int .i64 x.u) := h.cell 3
  by_cases hlt : now < x.u
  · have h1 : ¬ x.u ≤ now := by omega
    have h2 : (!decide (now < x.u)) = false := by simp [hlt]
    rw [h2]
    go_enter Tryd.func54, Tryd.ntmps54
    go_wp2
    go_ret
    exact ⟨rfl, rfl⟩
  · have h1 : x.u ≤ now := by omega
    have h2 : (!decide (now < x.u)) = true := by simp [hlt]
    rw [h2]
    go_enter Tryd.func54, Tryd.ntmps54
    go_wp2
    go_ret
    exact ⟨rfl, rfl⟩
theorem new_bad (hr : room < 0) {er : Value} (hc : w.cell? ⟨0, 0, none⟩ = some er) : Calls Tryd.prog 18 #[.int .i64 room] w fun e w' => e = .returned (.tuple #[.pointer none, er]) ∧ Aside (Keeps Nowhere w w') := by
  go_enter Tryd.func18, Tryd.ntmps18
  go_wp2_with fail
  go_region_held_law (fun w' => w'.cell? ⟨0, 0, none⟩ = some er) (exact hc) (fail)
  go_wp2
  go_ret2
  exact ⟨rfl, ⟨(Keeps.refl _ _).drew⟩⟩
theorem new_ (w : World) (h0 : 0 ≤ room) (hr : room ≤ 9223372036854775807) : Calls Tryd.prog 18 #[.int .i64 room] w fun e w' => ∃ c mb eb, e = .returned (.tuple #[ptr c, .nilIface]) ∧ Aside (w.heap.size ≤ c ∧ w.heap.size ≤ mb ∧ w.heap.size ≤ eb ∧ Keeps Nowhere w w' ∧ CaI w' c mb eb [] (fun _ => (⟨9223372036854775808, 9223372036854775808, 0, 0⟩ : Rx)) (fun _ => some eb) (fun _ => some eb) room) := by
  have hm : ∀ w, (Instr.makeMap 93 none).run Tryd.prog w = .ok (.map (some w.heap.size)) (w.alloc (.map #[] 0)) := fun w => by kernel_rfl
  have n0 : ¬ room < 0 := by omega
  go_enter Tryd.func18, Tryd.ntmps18
  go_wp2
  go_ret2
  refine ⟨w.heap.size + 1 + 1, rfl, w.heap.size + 1, w.heap.size, ⟨?_, ?_, ?_, ?_, ?_⟩⟩
  · have : w.heap.size ≤ w.heap.size + 1 + 1 := by omega
    exact this
  · have : w.heap.size ≤ w.heap.size + 1 := by omega
    exact this
  · exact Nat.le_refl _
  · exact (((Keeps.refl _ _).alloc _).alloc _).alloc _
  · have C1 := Cells.new w 92 [.string ByteArray.empty, .string ByteArray.empty, .int .i64 0, .int .i64 0, .pointer (some ⟨w.heap.size, 0, none⟩), .pointer (some ⟨w.heap.size, 0, none⟩)]
    have K2 : Keeps Nowhere _ _ := (Keeps.refl Nowhere (w.alloc (.cells #[.string ByteArray.empty, .string ByteArray.empty, .int .i64 0, .int .i64 0, .pointer (some ⟨w.heap.size, 0, none⟩), .pointer (some ⟨w.heap.size, 0, none⟩)] 92))).alloc (.map #[] 0)
    have M2 := MapB.made (w.alloc (.cells #[.string ByteArray.empty, .string ByteArray.empty, .int .i64 0, .int .i64 0, .pointer (some ⟨w.heap.size, 0, none⟩), .pointer (some ⟨w.heap.size, 0, none⟩)] 92))
    have C3 := Cells.new ((w.alloc (.cells #[.string ByteArray.empty, .string ByteArray.empty, .int .i64 0, .int .i64 0, .pointer (some ⟨w.heap.size, 0, none⟩), .pointer (some ⟨w.heap.size, 0, none⟩)] 92)).alloc (.map #[] 0)) 95 [.int .i64 room, .int .i64 0, .map (some (w.heap.size + 1)), .pointer (some ⟨w.heap.size, 0, none⟩)]
    rw [World.size_alloc] at M2
    rw [World.size_alloc, World.size_alloc] at C3
    refine ⟨C3, M2.later ((Keeps.refl Nowhere _).alloc _) (fun x => x), fun b hb => ?_, by simp, ?_, ⟨h0, hr, fun _ h => by simp at h, List.nodup_nil, h0⟩⟩
    · rw [List.mem_singleton.1 hb]
      exact (C1.later K2 (fun x => x)).later ((Keeps.refl Nowhere _).alloc _) (fun x => x)
    · intro j b hj
      have := lt_of_some hj
      simp only [List.length_singleton] at this
      obtain rfl : j = 0 := by omega
      exact ⟨rfl, rfl⟩
end Go.Proofs.YthjeeianlgkaaaaDoor.Lultt

/-
  package lru (ltt): leave, lead, letGo, Drop
-/
namespace Go.Proofs.YthjeeianlgkaaaaDoor.Lultt
open Go.RowKit Go

variable {w w' : World} {own own' : Nat → Nat} {i c mb eb s b p q j : Nat} {l : List Nat} {f : Nat → Rx} {pf nf : Nat → Option Nat} {room k now : Int} {L : List Rx} {I : Nat → Prop} {A : Nat → Addr} {x : Rx} {o : Option Nat} {a1 a2 u0 u1 mv : Value}

theorem Sts.setN (h : Sts w l f pf nf) : Sts (w.setCell ⟨b, 5, none⟩ (vF o)) l f pf (upd nf b o) := by
  intro c hc
  by_cases e : c = b
  · subst e
    rw [upd_same]
    exact (h c hc).setCell 5 (vF o)
  · rw [upd_other _ _ e]
    exact (h c hc).setOther _ _ e
theorem Sts.setP (h : Sts w l f pf nf) : Sts (w.setCell ⟨b, 4, none⟩ (vF o)) l f (upd pf b o) nf := by
  intro c hc
  by_cases e : c = b
  · subst e
    rw [upd_same]
    exact (h c hc).setCell 4 (vF o)
  · rw [upd_other _ _ e]
    exact (h c hc).setOther _ _ e
theorem Sts.sub {l' : List Nat} (h : Sts w l f pf nf) (hs : ∀ b ∈ l', b ∈ l) : Sts w l' f pf nf := fun b hb => h b (hs b hb)
theorem Sts.later {S : Nat → Prop} (h : Sts w l f pf nf) (hk : Keeps S w w') (h3 : ∀ b ∈ l, ¬ S b) : Sts w' l f pf nf := fun b hb => (h b hb).later hk (h3 b hb)
theorem nx_ne {n j : Nat} (h2 : 2 ≤ n) : nx n j ≠ j ∧ pv n j ≠ j := by
  unfold nx pv
  constructor
  · split <;> omega
  · split <;> omega
theorem sub_erase : ∀ x ∈ eb :: l.eraseIdx j, x ∈ eb :: l := by
  intro x hx
  rcases List.mem_cons.1 hx with e | e
  · rw [e]; exact List.mem_cons_self
  · exact List.mem_cons_of_mem _ (List.mem_of_mem_eraseIdx e)
set_option maxHeartbeats 1000000 in
set_option maxRecDepth 4000 in
theorem leave_ (hst : Sts w (eb :: l) f pf nf) (hn : (eb :: l).Nodup) (hr : Rg (eb :: l) pf nf) (hj : l[j]? = some b) :
    Calls Tryd.prog 56 #[ptr b] w fun e w' => e = .returned (.tuple #[]) ∧ ∃ pf' nf', Aside (Sts w' (eb :: l.eraseIdx j) f pf' nf' ∧ Rg (eb :: l.eraseIdx j) pf' nf' ∧ Cells w' b 92 (tc (f b) (vF (pf b)) (vF (nf b)))) ∧ Aside (Keeps (fun c => c ∈ eb :: l) w w') := by
  have bm : b ∈ eb :: l := List.mem_cons_of_mem _ (List.mem_of_getElem? hj)
  obtain ⟨p, ep, pm⟩ := hr.ahead bm
  obtain ⟨q, eq, qm⟩ := hr.behind bm
  have hj' : (eb :: l)[j + 1]? = some b := hj
  have hlt := lt_of_some hj'
  obtain ⟨r1, r2⟩ := hr _ b hj'
  rw [eq] at r1
  rw [ep] at r2
  have hne := nx_ne (n := (eb :: l).length) (j := j + 1) (by rw [List.length_cons] at hlt ⊢; omega)
  have bp : b ≠ p := fun e => hne.2 (nodup_idx hn (by rw [← r2, e]) hj')
  have bq : b ≠ q := fun e => hne.1 (nodup_idx hn (by rw [← r1, e]) hj')
  have hbc := hst b bm
  have B0 := Aside.mk hbc
  rw [ep, eq] at hbc
  have hpc := hst p pm
  have hqc := hst q qm
  have c1 : w.cell? ⟨b, 4, none⟩ = some (ptr p) := hbc.cell 4
  have c2 : w.cell? ⟨b, 5, none⟩ = some (ptr q) := hbc.cell 5
  have c3 : w.cell? ⟨p, 5, none⟩ = some (vF (nf p)) := hpc.cell 5
  have c4 : w.cell? ⟨q, 4, none⟩ = some (vF (pf q)) := hqc.cell 4
  have f1 : ∀ j, w.frozen? ⟨p, j, none⟩ = false := hpc.frozen
  have f2 : ∀ j, w.frozen? ⟨q, j, none⟩ = false := hqc.frozen
  have R2 := hr.erase hn hj' ep eq
  have S2 := (hst.setN (b := p) (o := some q)).setP (b := q) (o := some p)
  have H := Aside.mk (And.intro S2 (And.intro R2 (And.intro bp (And.intro bq (And.intro pm qm)))))
  clear hst hbc hpc hqc R2 S2 hr hn r1 r2 hne bp bq pm qm
  go_enter Tryd.func56, Tryd.ntmps56
  go_region
  obtain ⟨S2, R2, bp, bq, pm, qm⟩ := H.it
  go_end0
  refine ⟨rfl, _, _, ⟨fun c hc => (S2 c (sub_erase c hc)).drew, R2, ?_⟩, ⟨?_⟩⟩
  · exact ((B0.it.setOther ⟨p, 5, none⟩ (ptr q) bp).setOther ⟨q, 4, none⟩ (ptr p) bq).drew
  · exact (((Keeps.refl _ _).setCell _ _ (fun _ => pm)).setCell _ _ (fun _ => qm)).drew
theorem Sts.add {w1 : World} {o1 o2 : Option Nat} (h : Sts w l f pf nf) (hk : Keeps (fun c => c = s) w w1) (hs : s ∉ l) (hc : Cells w1 s 92 (tc x (vF o1) (vF o2))) : ∀ l', (∀ b ∈ l', b = s ∨ b ∈ l) → Sts w1 l' (upd f s x) (upd pf s o1) (upd nf s o2) := by
  intro l' hl b hb
  by_cases e : b = s
  · subst e
    rw [upd_same, upd_same, upd_same]
    exact hc
  · rw [upd_other _ _ e, upd_other _ _ e, upd_other _ _ e]
    rcases hl b hb with e' | e'
    · exact absurd e' e
    · exact (h b e').later hk e
set_option maxHeartbeats 1000000 in
theorem lead_ (hb : Cells w c 95 [u0, u1, mv, ptr eb]) (hst : Sts w (eb :: l) f pf nf) (hn : (eb :: l).Nodup) (hr : Rg (eb :: l) pf nf) (hs : s ∉ eb :: l) (hc : Cells w s 92 (tc x a1 a2)) :
    Calls Tryd.prog 49 #[ptr c, ptr s] w fun e w' => e = .returned (.tuple #[]) ∧ ∃ pf' nf', Aside (Sts w' (eb :: s :: l) (upd f s x) pf' nf' ∧ Rg (eb :: s :: l) pf' nf') ∧ Aside (Keeps (fun c => c ∈ eb :: s :: l) w w') := by
  obtain ⟨q, eq, qm⟩ := hr.behind (List.mem_cons_self (a := eb) (l := l))
  have hec := hst eb List.mem_cons_self
  rw [eq] at hec
  have hqc := hst q qm
  have cs : c ≠ s := ne_box hb hc
  have ce : c ≠ eb := ne_box hb hec
  have se : s ≠ eb := fun e => hs (by rw [e]; exact List.mem_cons_self)
  have sq : s ≠ q := fun e => hs (by rw [e]; exact qm)
  have c0 : w.cell? ⟨c, 3, none⟩ = some (ptr eb) := hb.cell 3
  have c1 : w.cell? ⟨eb, 5, none⟩ = some (ptr q) := hec.cell 5
  have c2 : w.cell? ⟨s, 4, none⟩ = some a1 := hc.cell 4
  have c3 : w.cell? ⟨s, 5, none⟩ = some a2 := hc.cell 5
  have c4 : w.cell? ⟨q, 4, none⟩ = some (vF (pf q)) := hqc.cell 4
  have f1 : ∀ j, w.frozen? ⟨s, j, none⟩ = false := hc.frozen
  have f2 : ∀ j, w.frozen? ⟨eb, j, none⟩ = false := hec.frozen
  have f3 : ∀ j, w.frozen? ⟨q, j, none⟩ = false := hqc.frozen
  have R2 := hr.lead hn hs eq
  have K1 : Keeps (fun c => c = s) w ((w.setCell ⟨s, 4, none⟩ (ptr eb)).setCell ⟨s, 5, none⟩ (ptr q)) := ((Keeps.refl (fun c => c = s) w).setCell ⟨s, 4, none⟩ _ (fun _ => rfl)).setCell ⟨s, 5, none⟩ _ (fun _ => rfl)
  have C1 : Cells ((w.setCell ⟨s, 4, none⟩ (ptr eb)).setCell ⟨s, 5, none⟩ (ptr q)) s 92 (tc x (vF (some eb)) (vF (some q))) := (hc.setCell 4 (ptr eb)).setCell 5 (ptr q)
  have S1 := hst.add K1 hs C1 (eb :: s :: l) (fun b hb => by
    rcases List.mem_cons.1 hb with e | e
    · exact .inr (by rw [e]; exact List.mem_cons_self)
    · rcases List.mem_cons.1 e with e | e
      · exact .inl e
      · exact .inr (List.mem_cons_of_mem _ e))
  have S2 := (S1.setN (b := eb) (o := some s)).setP (b := q) (o := some s)
  have k1 : eb ∈ eb :: s :: l := List.mem_cons_self
  have k2 : s ∈ eb :: s :: l := List.mem_cons_of_mem _ List.mem_cons_self
  have k3 : q ∈ eb :: s :: l := by
    rcases List.mem_cons.1 qm with e | e
    · rw [e]; exact k1
    · exact List.mem_cons_of_mem _ (List.mem_cons_of_mem _ e)
  have H := Aside.mk (And.intro S2 (And.intro R2 (And.intro k1 (And.intro k2 k3))))
  have X := Aside.mk (And.intro C1 (And.intro (hec.later K1 (fun e => se e.symm)) (And.intro (hqc.later K1 (fun e => sq e.symm)) K1)))
  have Y := Aside.mk hb
  clear hb hst hn hr hec hqc hc R2 S1 S2 C1 K1 k1 k2 k3 hs qm
  go_enter Tryd.func49, Tryd.ntmps49
  apply wp_seq
  go_region
  simp only [Exit.then]
  generalize hW : World.drew ((w.setCell ⟨s, 4, none⟩ (.pointer (some ⟨eb, 0, none⟩))).setCell ⟨s, 5, none⟩ (.pointer (some ⟨q, 0, none⟩))) = w1
  obtain ⟨D1, D2, D3, K1⟩ : Cells w1 s 92 (tc x (ptr eb) (ptr q)) ∧ Cells w1 eb 92 (tc (f eb) (vF (pf eb)) (ptr q)) ∧ (∃ a b y, Cells w1 q 92 (tc y a b)) ∧ Keeps (fun c => c = s) w w1 := by
    rw [← hW]
    exact ⟨X.it.1.drew, X.it.2.1.drew, ⟨_, _, _, X.it.2.2.1.drew⟩, X.it.2.2.2.drew⟩
  clear c1 c2 c3 c4 f1 f2 f3
  have d0 : w1.cell? ⟨c, 3, none⟩ = some (ptr eb) := (Y.it.later K1 cs).cell 3
  obtain ⟨y1, y2, y3, D3⟩ := D3
  have d1 : w1.cell? ⟨s, 4, none⟩ = some (ptr eb) := D1.cell 4
  have d2 : w1.cell? ⟨s, 5, none⟩ = some (ptr q) := D1.cell 5
  have d3 : w1.cell? ⟨eb, 5, none⟩ = some (ptr q) := D2.cell 5
  have d4 : w1.cell? ⟨q, 4, none⟩ = some y1 := D3.cell 4
  have f2 : ∀ j, w1.frozen? ⟨eb, j, none⟩ = false := D2.frozen
  have f3 : ∀ j, w1.frozen? ⟨q, j, none⟩ = false := D3.frozen
  have HW := Aside.mk hW
  clear hW D1 D2 D3 K1 c0
  go_region
  go_end0
  obtain ⟨S2, R2, k1, k2, k3⟩ := H.it
  rw [← HW.it]
  refine ⟨rfl, _, _, ⟨fun c hc => ?_, R2⟩, ⟨?_⟩⟩
  · exact (S2 c hc).drew
  · exact (((((Keeps.refl _ _).setCell _ _ (fun _ => k2)).setCell _ _ (fun _ => k2)).drew.setCell _ _ (fun _ => k1)).setCell _ _ (fun _ => k3)).drew
theorem sum_erase (h : CaI w c mb eb l f pf nf room) (hj : l[j]? = some b) : sumL ((l.eraseIdx j).map f) = sumL (l.map f) - (f b).w := by
  have hn := List.nodup_cons.1 h.nodup
  rw [map_eraseD h.inj hj hn.2]
  refine sumL_drop ?_
  rw [find_fk, fk_eq h.inj (List.mem_of_getElem? hj) rfl]
  rfl
set_option maxHeartbeats 1000000 in
theorem letGo_ (h : CaI w c mb eb l f pf nf room) (hj : l[j]? = some b) :
    Calls Tryd.prog 55 #[ptr c, ptr b] w fun e w' => e = .returned (.tuple #[]) ∧ ∃ pf' nf', Aside (CaI w' c mb eb (l.eraseIdx j) f pf' nf' room ∧ Cells w' b 92 (tc (f b) (vF (pf b)) (vF (nf b)))) ∧ Aside (Keeps (fun x => x = c ∨ x = mb ∨ x ∈ eb :: l) w w') := by
  have hlt := lt_of_some hj
  have bm := List.mem_of_getElem? hj
  have bm' : b ∈ eb :: l := List.mem_cons_of_mem _ bm
  have hn := List.nodup_cons.1 h.nodup
  have he := sum_erase h hj
  have hm := map_eraseD h.inj hj hn.2
  have ok2 : LOk room ((l.eraseIdx j).map f) := by rw [hm]; exact h.ok.drop _
  have s0 := sumL_nonneg ok2.w0
  have s1 := ok2.sum
  have r1 := h.ok.r1
  have w1' := (h.okOf bm).w
  have m1 := h.map_box
  have m2 := h.map_ne
  have m3 := h.box_ne
  have hbc := h.sts b bm'
  obtain ⟨w1, hdel, hm2, k2'⟩ := (h.map.later (S := Nowhere) ((Keeps.refl _ _).drew) (fun x => x)).drop (h.kyOf bm) (fk_eq h.inj bm rfl)
  have k2 : Keeps (fun x => x = mb) w w1 := (((Keeps.refl Nowhere w).drew).any).trans k2'
  have kb : ∀ x ∈ eb :: l, x ≠ mb := fun x hx e => m2 x hx e.symm
  have hb1 := h.box.later k2 (fun e => m1 e.symm)
  have hs1 := h.sts.later k2 kb
  have hK1 : Keeps (fun x => x = c) w1 (w1.setCell ⟨c, 1, none⟩ (.int .i64 (sumL (l.map f) - (f b).w))).drew := ((Keeps.refl (fun x => x = c) w1).setCell ⟨c, 1, none⟩ _ (fun _ => rfl)).drew
  have LV := Aside.mk (leave_ (hs1.later hK1 (fun x hx e => m3 x hx e.symm)) h.nodup h.ring hj)
  have c0 : w.cell? ⟨c, 2, none⟩ = some (.map (some mb)) := h.box.cell 2
  have c2 : w1.cell? ⟨c, 1, none⟩ = some (.int .i64 (sumL (l.map f))) := hb1.cell 1
  have c3 : w1.cell? ⟨b, 2, none⟩ = some (.int .i64 (f b).w) := (hs1 b bm').cell 2
  have f1 : ∀ j, w1.frozen? ⟨c, j, none⟩ = false := hb1.frozen
  have hb2 := (hb1.setCell 1 (.int .i64 (sumL (l.map f) - (f b).w))).drew
  rw [← fk_erase (kf := fun b => (f b).k) h.inj hn.2 hj rfl] at hm2
  have ck0 := hbc.cell 0
  have ck1 := hbc.cell 1
  simp only [List.getElem?_cons_zero, List.getElem?_cons_succ] at ck0 ck1
  have b1 : -9223372036854775808 ≤ sumL (l.map f) - (f b).w := by omega
  have b2 : sumL (l.map f) - (f b).w ≤ 9223372036854775807 := by omega
  have H := Aside.mk (And.intro h (And.intro hm2 (And.intro k2 (And.intro hb2 (And.intro he (And.intro ok2 hK1))))))
  clear h hm2 k2 k2' hb1 hs1 hb2 he ok2 hm m1 m2 m3 kb hbc s0 s1 r1 w1' hK1 bm bm'
  go_enter Tryd.func55, Tryd.ntmps55
  apply wp_seq
  go_region
  simp only [Exit.then]
  apply wp_seq
  go_region
  simp only [Exit.then]
  go_wp2_with (first | (go_at_call 56; refine LV.it.mono ?_; clear LV; rintro e w3 ⟨rfl, pf', nf', J1, J2⟩) | fail)
  go_end0
  obtain ⟨h, hm2, k2, hb2, he, ok2, hK1⟩ := H.it
  obtain ⟨hst, hr, hbc⟩ := J1.it
  have k3 := J2.it
  refine ⟨rfl, pf', nf', ⟨⟨?_, ?_, hst, ?_, hr, ok2⟩, ?_⟩, ⟨?_⟩⟩
  · rw [he]
    exact hb2.later k3 (fun hx => h.box_ne c hx rfl)
  · rw [List.length_eraseIdx_of_lt hlt]
    exact (hm2.later hK1 (fun e => h.map_box e)).later k3 (fun hx => h.map_ne mb hx rfl)
  · refine List.nodup_cons.2 ⟨fun hx => hn.1 (List.mem_of_mem_eraseIdx hx), hn.2.eraseIdx j⟩
  · exact hbc
  · refine ((k2.mono (fun c e _ => .inr (.inl e))).next hK1 (fun c e _ => .inl e)).next k3 (fun c e _ => .inr (.inr e))
theorem drop_none (h : CaI w c mb eb l f pf nf room) (hk : Ky k) (hm : fk l (fun b => (f b).k) k = none) : Calls Tryd.prog 27 #[ptr c, kv k] w fun e w' => e = .returned (.bool false) ∧ w' = w := by
  have hf := find_ h hk
  rw [hm] at hf
  simp only [vF] at hf
  go_enter Tryd.func27, Tryd.ntmps27
  go_upto_region 2 with (first | (go_at_call 53; refine hf.mono ?_; rintro e w' ⟨rfl, rfl⟩) | fail)
  go_wp2
  go_ret
  exact ⟨rfl, rfl⟩
theorem drop_nil (k : Int) (w : World) : Calls Tryd.prog 27 #[.pointer none, kv k] w fun e w' => e = .returned (.bool false) ∧ w' = w := by
  have hf := find_nil k w
  go_enter Tryd.func27, Tryd.ntmps27
  go_upto_region 2 with (first | (go_at_call 53; refine hf.mono ?_; rintro e w' ⟨rfl, rfl⟩) | fail)
  go_wp2
  go_ret
  exact ⟨rfl, rfl⟩
end Go.Proofs.YthjeeianlgkaaaaDoor.Lultt

/-
  package lru (ltt): Drop, refuses, makeRoom
-/
namespace Go.Proofs.YthjeeianlgkaaaaDoor.Lultt
open Go.RowKit

variable {w w' : World} {own own' : Nat → Nat} {i c mb eb s b p q j : Nat} {l : List Nat} {f : Nat → Rx} {pf nf : Nat → Option Nat} {room k now W : Int} {L : List Rx} {I : Nat → Prop} {A : Nat → Addr} {x : Rx} {er : Value}

/-- the blocks of a cache -/
def Mine (c mb eb : Nat) (l : List Nat) : Nat → Prop := fun x => x = c ∨ x = mb ∨ x ∈ eb :: l
theorem has_fk (k : Int) : hasL (l.map f) k = (fk l (fun b => (f b).k) k).isSome := by
  unfold hasL
  rw [find_fk]
  cases fk l (fun b => (f b).k) k <;> rfl
theorem dropI (h : CaI w c mb eb l f pf nf room) (hk : Ky k) : Calls Tryd.prog 27 #[ptr c, kv k] w fun e w' => e = .returned (.bool (hasL (l.map f) k)) ∧ ∃ l1 pf1 nf1, Aside (CaI w' c mb eb l1 f pf1 nf1 room ∧ l1.map f = dropL (l.map f) k ∧ (∀ b ∈ l1, b ∈ l)) ∧ Aside (Keeps (Mine c mb eb l) w w') := by
  rw [has_fk]
  cases hm : fk l (fun b => (f b).k) k with
  | none =>
    refine (drop_none h hk hm).mono ?_
    rintro e w' ⟨rfl, rfl⟩
    refine ⟨rfl, l, pf, nf, ⟨h, (dropL_none ?_).symm, fun _ hb => hb⟩, ⟨Keeps.refl _ _⟩⟩
    rw [find_fk, hm]
    rfl
  | some b =>
    obtain ⟨bm, eb'⟩ := fk_some hm
    obtain ⟨j, hj⟩ := List.mem_iff_getElem?.1 bm
    have hf := find_ h hk
    rw [hm] at hf
    simp only [vF] at hf
    have LG := Aside.mk (letGo_ h hj)
    have E1 := Aside.mk (map_eraseD h.inj hj (List.nodup_cons.1 h.nodup).2)
    go_enter Tryd.func27, Tryd.ntmps27
    go_upto_region 4 with (first | (go_at_call 53; refine hf.mono ?_; rintro e w' ⟨rfl, rfl⟩) | (go_at_call 55; refine LG.it.mono ?_; clear LG; rintro e w3 ⟨rfl, pf', nf', J1, J2⟩) | fail)
    go_wp2
    go_ret
    exact ⟨rfl, _, pf', nf', ⟨J1.it.1, by rw [E1.it]; rw [eb'], fun b hb => List.mem_of_mem_eraseIdx hb⟩, ⟨J2.it⟩⟩
theorem refuses_nil (k : Int) (w : World) (W : Int) (hc : w.cell? ⟨1, 0, none⟩ = some er) : Calls Tryd.prog 47 #[.pointer none, kv k, .int .i64 W] w fun e w' => e = .returned er ∧ w' = w := by
  go_enter Tryd.func47, Tryd.ntmps47
  go_wp2
  go_ret
  exact ⟨rfl, rfl⟩
theorem refuses_neg (k : Int) (c : Nat) (w : World) (W : Int) (hW : W < 0) (hc : w.cell? ⟨0, 0, none⟩ = some er) : Calls Tryd.prog 47 #[ptr c, kv k, .int .i64 W] w fun e w' => e = .returned er ∧ w' = w := by
  go_enter Tryd.func47, Tryd.ntmps47
  go_wp2
  go_ret
  exact ⟨rfl, rfl⟩
theorem refuses_full (h : CaI w c mb eb l f pf nf room) (k : Int) (hW : 0 ≤ W) (hr : room < W) (hc : w.cell? ⟨5, 0, none⟩ = some er) : Calls Tryd.prog 47 #[ptr c, kv k, .int .i64 W] w fun e w' => e = .returned er ∧ w' = w := by
  have c0 : w.cell? ⟨c, 0, none⟩ = some (.int .i64 room) := h.box.cell 0
  have n0 : ¬ W < 0 := by omega
  go_enter Tryd.func47, Tryd.ntmps47
  go_wp2
  go_ret
  exact ⟨rfl, rfl⟩
theorem refuses_ok (h : CaI w c mb eb l f pf nf room) (hk : Ky k) (hW : 0 ≤ W) (hr : W ≤ room) : Calls Tryd.prog 47 #[ptr c, kv k, .int .i64 W] w fun e w' => e = .returned .nilIface ∧ w' = w := by
  have c0 : w.cell? ⟨c, 0, none⟩ = some (.int .i64 room) := h.box.cell 0
  have n0 : ¬ W < 0 := by omega
  have n1 : ¬ room < W := by omega
  have hf := find_ h hk
  generalize vF (fk l (fun b => (f b).k) k) = fv at hf
  clear h
  go_enter Tryd.func47, Tryd.ntmps47
  go_wp2_with (first | (go_at_call 53; refine hf.mono ?_; rintro e w' ⟨rfl, rfl⟩) | fail)
  go_ret
  exact ⟨rfl, rfl⟩
end Go.Proofs.YthjeeianlgkaaaaDoor.Lultt

/-
  package lru (ltt): makeRoom
-/
namespace Go.Proofs.YthjeeianlgkaaaaDoor.Lultt
open Go.RowKit

variable {w w' : World} {own own' : Nat → Nat} {i c mb eb s b p q j : Nat} {l : List Nat} {f : Nat → Rx} {pf nf : Nat → Option Nat} {room k now W : Int} {L M : List Rx} {I : Nat → Prop} {A : Nat → Addr} {x : Rx} {er : Value}

theorem rk_append : rk (L ++ M) = rk L ++ rk M := by unfold rk; rw [List.flatMap_append]
theorem rk_one : rk [x] = kcs x.k := by unfold rk; simp
theorem rk_len : (rk L).length = L.length * 1 := by
  induction L with
  | nil => rfl
  | cons a L ih => rw [← List.singleton_append, rk_append, List.length_append, ih, rk_one, List.length_append]; simp [kcs]
theorem rk_cells : ∀ v ∈ kcs k, v.oneCell' = true := by
  intro v hv
  simp only [kcs, List.mem_cons, List.not_mem_nil, or_false] at hv
  first
    | (rw [hv]; rfl)
    | (rcases hv with hv | hv <;> (rw [hv]; rfl))
theorem infoK : (Tryd.prog.info? 9).map (fun i => (i.zero, i.size, i.bytes)) = some (some (.string ByteArray.empty), 1, 16) := by kernel_rfl
theorem CaI.last (h : CaI w c mb eb l f pf nf room) {m : Nat} (hm : l.length = m + 1) (hb : l[m]? = some b) : Cells w eb 92 (tc (f eb) (ptr b) (vF (nf eb))) := by
  have he := h.sts eb List.mem_cons_self
  have hp := (h.ring 0 eb rfl).2
  have e : (eb :: l)[pv (eb :: l).length 0]? = some b := by
    unfold pv
    rw [if_pos rfl, List.length_cons, hm]
    exact hb
  rw [e] at hp
  rw [hp] at he
  exact he
set_option maxHeartbeats 4000000 in
set_option maxRecDepth 20000 in
theorem makeRoom_ (h : CaI w c mb eb l f pf nf room) (hW : 0 ≤ W) (hr : W ≤ room) (hmax : l.length * 16 ≤ 140737488355328) :
    Calls Tryd.prog 48 #[ptr c, .int .i64 W] w fun e w' => ∃ v pf' nf', e = .returned v ∧ Aside (CaI w' c mb eb (l.take (fit (room - W) (l.map f))) f pf' nf' room) ∧ Aside (w'.ownsRow w.heap.size 9 1 v (l.length - fit (room - W) (l.map f)) (rk ((l.map f).drop (fit (room - W) (l.map f))).reverse)) ∧ Aside (Keeps (Mine c mb eb l) w w') := by
  have r1 := h.ok.r1
  have hmn : ∀ x, Mine c mb eb l x → x < w.heap.size := by
    rintro x (e | e | e)
    · rw [e]; exact h.box.lt
    · rw [e]; exact h.map.lt
    · exact (h.sts x e).lt
  have w0 := h.ok.w0
  have H := Aside.mk h
  have HM := Aside.mk hmn
  have HW0 := Aside.mk w0
  have hl0 : sumL ((l.map f).take 0) = 0 := rfl
  clear h hmn w0
  go_enter Tryd.func48, Tryd.ntmps48
  go_wp2_with fail
  go_loopw [5] (fun gv wr => ∃ (m : Nat) (pf' nf' : Nat → Option Nat) (ga : Option Addr) (gn gc : Nat), gv = .slice ga gn gc ∧ gn = l.length - m ∧ m ≤ l.length ∧ Aside (fitN (room - W) (l.map f) m = fit (room - W) (l.map f)) ∧ Aside (CaI wr c mb eb (l.take m) f pf' nf' room) ∧ Aside (wr.ownsRow w.heap.size 9 1 (.slice ga gn gc) gn (rk ((l.map f).drop m).reverse)) ∧ Aside (Keeps (Mine c mb eb l) w wr)) (fun gv _ => match gv with | .slice _ n _ => l.length - n | _ => 0)
  case atStart =>
    refine ⟨l.length, pf, nf, none, 0, 0, rfl, (Nat.sub_self _).symm, Nat.le_refl _, ⟨by unfold fit; rw [List.length_map]⟩, ⟨by rw [List.take_length]; exact H.it⟩, ⟨?_⟩, ⟨Keeps.refl _ _⟩⟩
    rw [List.drop_of_length_le (by simp)]
    exact World.ownsRow_nil _ _ _ _
  case round =>
    obtain ⟨m, pf', nf', ga, gn, gc, rfl, hgn, hm, F, C, O, K⟩ := hrel
    have hlen : (l.take m).length = m := by rw [List.length_take]; omega
    have c0 : wr.cell? ⟨c, 0, none⟩ = some (.int .i64 room) := C.it.box.cell 0
    have c1 : wr.cell? ⟨c, 1, none⟩ = some (.int .i64 (sumL ((l.take m).map f))) := C.it.box.cell 1
    have c3 : wr.cell? ⟨c, 3, none⟩ = some (ptr eb) := C.it.box.cell 3
    have esum : (l.take m).map f = (l.map f).take m := List.map_take
    have lim1 : -9223372036854775808 ≤ room - W := by omega
    have lim2 : room - W ≤ 9223372036854775807 := by omega
    by_cases hs : sumL ((l.take m).map f) ≤ room - W
    · have hs' : ¬ room - W < sumL ((l.take m).map f) := by omega
      have E : Aside (fit (room - W) (l.map f) = m) := ⟨by rw [← F.it]; exact fitN_stop (by rw [← esum]; exact hs)⟩
      generalize sumL ((l.take m).map f) = S at c1 hs hs'
      clear esum c3 H HM HW0 hl0
      go_wp2_with fail
      go_quiet (fail)
      go_wp2_with fail
      go_ret
      refine ⟨_, pf', nf', rfl, ⟨?_⟩, ⟨?_⟩, ⟨?_⟩⟩
      · rw [E.it]; exact C.it.quiet ((Keeps.refl _ _).drewN _)
      · rw [E.it, ← hgn]; exact owns_later O.it ((Keeps.refl Nowhere _).drewN _) (fun _ _ x => x)
      · exact K.it.drewN _
    · have hs' : room - W < sumL ((l.take m).map f) := by omega
      have hm0 : m ≠ 0 := by
        rintro rfl
        rw [esum, hl0] at hs
        omega
      obtain ⟨m, rfl⟩ : ∃ m', m = m' + 1 := ⟨m - 1, by omega⟩
      have hlt : m < l.length := by omega
      obtain ⟨b, hb⟩ : ∃ b, l[m]? = some b := ⟨_, List.getElem?_eq_getElem hlt⟩
      have hb' : (l.take (m + 1))[m]? = some b := by rw [List.getElem?_take_of_lt (by omega)]; exact hb
      have E : Aside (fitN (room - W) (l.map f) m = fit (room - W) (l.map f)) := ⟨by rw [← F.it]; exact (fitN_on (by rw [← esum]; exact hs)).symm⟩
      have CL := C.it.last hlen hb'
      have e1 : wr.cell? ⟨eb, 4, none⟩ = some (ptr b) := CL.cell 4
      have HB := Aside.mk hb
      have GN := Aside.mk hgn
      generalize sumL ((l.take (m + 1)).map f) = S at c1 hs hs'
      clear esum H HW0 hl0 hb hgn CL F hm0 hs
      have LG : Aside (∀ W', Keeps Nowhere wr W' → Calls Tryd.prog 55 #[ptr c, ptr b] W' fun e w' => e = .returned (.tuple #[]) ∧ ∃ pf' nf', Aside (CaI w' c mb eb (l.take m) f pf' nf' room ∧ ∃ a1 a2, Cells w' b 92 (tc (f b) a1 a2)) ∧ Aside (Keeps (Mine c mb eb l) W' w')) := ⟨fun W' hk => by
        refine (letGo_ (C.it.quiet hk) hb').mono ?_
        rintro e w' ⟨rfl, pf', nf', J1, J2⟩
        have := J1.it.1
        rw [take_eraseIdx l m hlt] at this
        refine ⟨rfl, pf', nf', ⟨this, _, _, J1.it.2⟩, ⟨J2.it.mono ?_⟩⟩
        rintro x (e | e | e) _
        · exact .inl e
        · exact .inr (.inl e)
        · rcases List.mem_cons.1 e with e | e
          · exact .inr (.inr (by rw [e]; exact List.mem_cons_self))
          · exact .inr (.inr (List.mem_cons_of_mem _ (List.mem_of_mem_take e)))⟩
      clear hb'
      go_wp2_with fail
      go_quiet (fail)
      have K1 := Aside.mk ((Keeps.refl Nowhere wr).drewN nq)
      have b1 : (gn + 1) * 16 ≤ 140737488355328 := by have := GN.it; omega
      have b2 : gn + 1 ≤ maxLen := Nat.le_trans (show gn + 1 ≤ 140737488355328 by omega) (by decide)
      go_wp2_with (first
        | (go_at_call 55; refine (LG.it _ K1.it).mono ?_; clear LG; rintro e w3 ⟨rfl, pf2, nf2, J1, J2⟩
           obtain ⟨C3, a1, a2, B3⟩ := J1.it
           have O3 := Aside.mk (owns_later (owns_later O.it K1.it (fun _ _ x => x)) J2.it (fun b hb e => by have := HM.it _ e; have := owns_base O.it b hb; omega))
           have z0 := B3.cell 0
           simp only [List.getElem?_cons_zero] at z0)
        | (at_builtin; refine wpList_appendR rfl _ _ 59 rfl 9 (.string ByteArray.empty) 1 16 Tryd.underlying59 infoK rfl (by decide) w3 ((Keeps.refl _ _).alloc _) w.heap.size _ gn _ O3.it _ 1 (kcs (f b).k) (readsK_new w3 9 (kcs (f b).k)) rk_cells b1 b2 (Nat.le_trans K.it.size (Nat.le_trans K1.it.size J2.it.size)) rfl rfl ?_
           intro v' w' o5 k5 b5)
        | fail)
      obtain ⟨p1, p2, p3, hv'⟩ := owns_shapeK o5.it
      obtain rfl : p2 = gn + 1 := by
        rcases o5.it.2 with ⟨e, h0⟩ | ⟨g, cap, cur, e, _⟩
        · exact absurd h0 (by omega)
        · rw [hv'] at e; injection e
      subst hv'
      have hd : (l.map f).drop m = f b :: (l.map f).drop (m + 1) := by
        have h1 : (l.map f)[m]? = some (f b) := by rw [List.getElem?_map, HB.it]; rfl
        have h2 := List.getElem?_eq_some_iff.1 h1
        rw [List.drop_eq_getElem_cons h2.1, h2.2]
      have hgn := GN.it
      have kA : Keeps (fun x => w.heap.size ≤ x) w3 w' := (((Keeps.refl _ _).alloc _).trans (k5.it.mono (fun x e _ => owns_base O3.it x e)))
      refine ⟨⟨m, pf2, nf2, p1, gn + 1, p3, rfl, by omega, by omega, E, ⟨?_⟩, ⟨?_⟩, ⟨?_⟩⟩, ?_⟩
      · exact C3.later kA (fun e => by have := HM.it c (.inl rfl); omega) (fun e => by have := HM.it mb (.inr (.inl rfl)); omega) (fun x hx e => by
          have h2 : Mine c mb eb l x := by
            rcases List.mem_cons.1 hx with e | e
            · exact .inr (.inr (by rw [e]; exact List.mem_cons_self))
            · exact .inr (.inr (List.mem_cons_of_mem _ (List.mem_of_mem_take e)))
          have := HM.it x h2
          omega)
      · rw [hd, List.reverse_cons, rk_append, rk_one]
        exact o5.it
      · exact ((K.it.trans K1.it.any).trans J2.it).next kA (fun x e hlt => by omega)
      · show l.length - (gn + 1) < l.length - gn
        omega
end Go.Proofs.YthjeeianlgkaaaaDoor.Lultt

/-
  package lru (ltt): Put
-/
namespace Go.Proofs.YthjeeianlgkaaaaDoor.Lultt
open Go.RowKit

variable {w w' : World} {own own' : Nat → Nat} {i c mb eb s b p q j : Nat} {l : List Nat} {f : Nat → Rx} {pf nf : Nat → Option Nat} {room k now W : Int} {L M : List Rx} {I : Nat → Prop} {A : Nat → Addr} {x : Rx} {er : Value}

theorem CaI.mine (h : CaI w c mb eb l f pf nf room) : ∀ x, Mine c mb eb l x → x < w.heap.size := by
  rintro x (e | e | e)
  · rw [e]; exact h.box.lt
  · rw [e]; exact h.map.lt
  · exact (h.sts x e).lt
theorem put_err {a er : Value} (tvv : Value) (U : Int) (hf : Calls Tryd.prog 47 #[a, kv k, .int .i64 W] w fun e w' => e = .returned er ∧ w' = w) (ne : ∃ t p, er = .iface t p) : Calls Tryd.prog 22 #[a, kv k, tvv, .int .i64 W, .int .i64 U] w fun e w' => e = .returned (.tuple #[.slice none 0 0, er]) ∧ w' = w := by
  obtain ⟨t, p, rfl⟩ := ne
  go_enter Tryd.func22, Tryd.ntmps22
  go_wp2_with (first | (go_at_call 47; refine hf.mono ?_; rintro e w' ⟨rfl, rfl⟩) | fail)
  go_ret2
  exact ⟨rfl, rfl⟩
theorem owns_base_le {base base' n k : Nat} {e : TypeId} {v : Value} {xs : List Value} (h : w.ownsRow base e k v n xs) (hb : base' ≤ base) : w.ownsRow base' e k v n xs := by
  refine ⟨h.1, ?_⟩
  rcases h.2 with ⟨h, h0⟩ | ⟨q, cap, cur, h, h0, h1⟩
  · exact .inl ⟨h, h0⟩
  · exact .inr ⟨q, cap, cur, h, by omega, h1⟩
theorem lt_max {n : Nat} (h : n * 16 ≤ 140737488355328) : n < maxLen := by
  have h8 : 1 ≤ 16 := by decide
  have : n ≤ 140737488355328 := Nat.le_trans (Nat.le_mul_of_pos_right _ h8) h
  exact Nat.lt_of_le_of_lt this (by decide)
theorem map_front (hs : s ∉ l) : (s :: l).map (upd f s x) = x :: l.map f := by
  rw [List.map_cons, upd_same]
  congr 1
  exact List.map_congr_left fun y hy => upd_other _ _ (fun e => hs (e ▸ hy))
set_option maxHeartbeats 4000000 in
set_option maxRecDepth 20000 in
theorem put_ok (h : CaI w c mb eb l f pf nf room) (hx : x.Ok) (hr : x.w ≤ room) (hmax : l.length * 16 ≤ 140737488355328) :
    Calls Tryd.prog 22 #[ptr c, kv x.k, tv x.t, .int .i64 x.w, .int .i64 x.u] w fun e w' => ∃ v s l2 pf' nf', e = .returned (.tuple #[v, .nilIface]) ∧ Aside (CaI w' c mb eb (s :: l2) (upd f s x) pf' nf' room ∧ (s :: l2).map (upd f s x) = putL room (l.map f) x ∧ w.heap.size ≤ s ∧ (∀ b ∈ l2, b ∈ l)) ∧ Aside (w'.ownsRow w.heap.size 9 1 v ((dropL (l.map f) x.k).length - fit (room - x.w) (dropL (l.map f) x.k)) (rk ((dropL (l.map f) x.k).drop (fit (room - x.w) (dropL (l.map f) x.k))).reverse)) ∧ Aside (Keeps (Mine c mb eb l) w w') := by
  have hk : Ky x.k := hx.k
  have RF := Aside.mk (refuses_ok h hk hx.w.1 hr)
  have DR := Aside.mk (dropI h hk)
  have HM := Aside.mk h.mine
  have HO := Aside.mk (h.ok.put hx hr)
  have HL := Aside.mk h.ok
  have hw := hx.w
  have hr1 := h.ok.r1
  clear h hk
  obtain ⟨k, t, W, U⟩ := x
  simp only at hr hw RF DR HO ⊢
  go_enter Tryd.func22, Tryd.ntmps22
  go_upto_region 6 with (first
    | (go_at_call 47; refine RF.it.mono ?_; clear RF; rintro e w' ⟨rfl, rfl⟩)
    | (go_at_call 27; refine DR.it.mono ?_; clear DR; rintro e w1 ⟨rfl, l1, pf1, nf1, J1, K1⟩
       have hl1 : l1.length ≤ l.length := (by have := congrArg List.length J1.it.2.1; rw [List.length_map] at this; have h2 := dropL_len (L := l.map f) (k := k); rw [List.length_map] at h2; omega)
       have MR := Aside.mk (makeRoom_ J1.it.1 hw.1 hr (Nat.le_trans (Nat.mul_le_mul_right _ hl1) hmax)))
    | (go_at_call 48; refine MR.it.mono ?_; clear MR; rintro e w3 ⟨v, pf3, nf3, rfl, C3, O3, K3⟩
       obtain ⟨q1, q2, q3, hv⟩ := owns_shapeK O3.it
       subst hv)
    | fail)
  have hs0 : w1.heap.size ≤ w3.heap.size := K3.it.size
  have hsz : w'.heap.size ≤ w3.heap.size := Nat.le_trans K1.it.size hs0
  have HN : Aside (w3.heap.size ∉ eb :: l1.take (fit (room - W) (l1.map f))) := ⟨fun e => Nat.lt_irrefl _ (C3.it.sts _ e).lt⟩
  have NK : Aside (fk (l1.take (fit (room - W) (l1.map f))) (fun b => (f b).k) k = none) := ⟨by
    refine fk_out fun hm => ?_
    obtain ⟨b, hb, e⟩ := List.mem_map.1 hm
    have h1 : k ∈ keyL (l1.map f) := by rw [keyL_map]; exact List.mem_map.2 ⟨b, List.mem_of_mem_take hb, e⟩
    rw [J1.it.2.1] at h1
    exact dropL_out HL.it.one h1⟩
  have KM : Keeps (fun x => x = w3.heap.size) w3 (w3.alloc (.cells (tc ⟨k, t, W, U⟩ (.pointer none) (.pointer none)).toArray 92)) := (Keeps.refl _ _).alloc _
  obtain ⟨w5, hst, M5, K5⟩ := (C3.it.map.later KM (fun e => by have := C3.it.map.lt; omega)).store (by rw [List.length_take]; exact lt_max (Nat.le_trans (Nat.mul_le_mul_right _ (Nat.le_trans (Nat.min_le_right _ _) hl1)) hmax)) (show Ky k from hx.k) NK.it w3.heap.size
  have B4 : Cells (w3.alloc (.cells (tc ⟨k, t, W, U⟩ (.pointer none) (.pointer none)).toArray 92)) w3.heap.size 92 (tc ⟨k, t, W, U⟩ (.pointer none) (.pointer none)) := Cells.new w3 _ _
  have c2 : (w3.alloc (.cells (tc ⟨k, t, W, U⟩ (.pointer none) (.pointer none)).toArray 92)).cell? ⟨c, 2, none⟩ = some (.map (some mb)) := (C3.it.box.later KM (fun e => by have := C3.it.box.lt; omega)).cell 2
  have D5 := Aside.mk ((C3.it.box.later KM (fun e => by have := C3.it.box.lt; omega)).later K5 (fun e => C3.it.map_box e.symm))
  have d1 : w5.cell? ⟨c, 1, none⟩ = some (.int .i64 (sumL ((l1.take (fit (room - W) (l1.map f))).map f))) := D5.it.cell 1
  have f1 := D5.it.frozen 1
  have esum : sumL ((l1.take (fit (room - W) (l1.map f))).map f) ≤ room - W := by rw [List.map_take]; exact fit_sum (by omega)
  have esum0 : 0 ≤ sumL ((l1.take (fit (room - W) (l1.map f))).map f) := sumL_nonneg C3.it.ok.w0
  have g1 : -9223372036854775808 ≤ sumL ((l1.take (fit (room - W) (l1.map f))).map f) + W := by omega
  have g2 : sumL ((l1.take (fit (room - W) (l1.map f))).map f) + W ≤ 9223372036854775807 := by omega
  have D6 := Aside.mk (D5.it.setCell 1 (.int .i64 (sumL ((l1.take (fit (room - W) (l1.map f))).map f) + W)))
  have kW : Keeps (fun x => x = c) w5 (w5.setCell ⟨c, 1, none⟩ (.int .i64 (sumL ((l1.take (fit (room - W) (l1.map f))).map f) + W))) := (Keeps.refl _ _).setCell _ _ (fun _ => rfl)
  have SS := C3.it.sts
  have nb := C3.it.map_ne
  have nc := C3.it.box_ne
  have LD := Aside.mk (lead_ (s := w3.heap.size) (x := ⟨k, t, W, U⟩) D6.it ((((SS.later KM (fun b hb e => by have := (SS b hb).lt; omega)).later K5 (fun b hb e => nb b hb e.symm)).later kW (fun b hb e => nc b hb e.symm))) C3.it.nodup C3.it.ring HN.it ((B4.later K5 (fun e => by have := C3.it.map.lt; omega)).later kW (fun e => by have := C3.it.box.lt; omega)))
  have M6 := Aside.mk (M5.later kW (fun e => C3.it.map_box e))
  have K6 : Aside (Keeps (Mine c mb eb l1) w1 (w5.setCell ⟨c, 1, none⟩ (.int .i64 (sumL ((l1.take (fit (room - W) (l1.map f))).map f) + W)))) := ⟨((K3.it.next KM (fun x e hlt => by omega)).next K5 (fun x e _ => .inr (.inl e))).next kW (fun x e _ => .inl e)⟩
  have K36 : Aside (Keeps (fun x => x = c ∨ x = mb) w3 (w5.setCell ⟨c, 1, none⟩ (.int .i64 (sumL ((l1.take (fit (room - W) (l1.map f))).map f) + W)))) := ⟨((KM.mono (fun x e hlt => by omega)).trans (K5.mono (fun x e _ => .inr e))).trans (kW.mono (fun x e _ => .inl e))⟩
  have ES := Aside.mk (And.intro esum esum0)
  have HS2 : ∃ S2, Aside (sumL ((l1.take (fit (room - W) (l1.map f))).map f) = S2) := ⟨_, ⟨rfl⟩⟩
  obtain ⟨S2, HS2⟩ := HS2
  rw [HS2.it] at d1 g1 g2 D6 LD M6 K6 K36 ES
  go_upto_region 7 with fail
  clear esum esum0 D5 KM kW SS nb nc
  go_upto_region 9 with fail
  go_wp2_with (first | (go_at_call 49; refine LD.it.mono ?_; clear LD; rintro e w7 ⟨rfl, pf7, nf7, J7, K7⟩) | fail)
  go_ret2
  have e1 := J1.it.2.1
  have hL1 : l1.length = (dropL (l.map f) k).length := by rw [← e1, List.length_map]
  have em := map_front (x := ⟨k, t, W, U⟩) (f := f) (fun e => HN.it (List.mem_cons_of_mem _ e))
  have ep : (w3.heap.size :: l1.take (fit (room - W) (l1.map f))).map (upd f w3.heap.size ⟨k, t, W, U⟩) = putL room (l.map f) ⟨k, t, W, U⟩ := by
    rw [em, List.map_take, e1]
    rfl
  have k37 : Keeps (Mine c mb eb l1) w3 w7 := (K36.it.mono (fun x e _ => by rcases e with e | e; exact .inl e; exact .inr (.inl e))).next K7.it (fun x e hlt => by
    rcases List.mem_cons.1 e with e | e
    · exact .inr (.inr (by rw [e]; exact List.mem_cons_self))
    · rcases List.mem_cons.1 e with e | e
      · omega
      · exact .inr (.inr (List.mem_cons_of_mem _ (List.mem_of_mem_take e))))
  have hms : ∀ x, Mine c mb eb l1 x → Mine c mb eb l x := by
    rintro x (e | e | e)
    · exact .inl e
    · exact .inr (.inl e)
    · rcases List.mem_cons.1 e with e | e
      · exact .inr (.inr (by rw [e]; exact List.mem_cons_self))
      · exact .inr (.inr (List.mem_cons_of_mem _ (J1.it.2.2 x e)))
  have hn7 : ∀ y ∈ [c, mb], ¬ y ∈ eb :: w3.heap.size :: l1.take (fit (room - W) (l1.map f)) := by
    intro y hy e
    have hlt : y < w3.heap.size := by
      rcases List.mem_cons.1 hy with h | h
      · rw [h]; exact C3.it.box.lt
      · rw [List.mem_singleton.1 h]; exact C3.it.map.lt
    have hne : ∀ b ∈ eb :: l1.take (fit (room - W) (l1.map f)), y ≠ b := by
      rcases List.mem_cons.1 hy with h | h
      · rw [h]; exact C3.it.box_ne
      · rw [List.mem_singleton.1 h]; exact C3.it.map_ne
    rcases List.mem_cons.1 e with e | e
    · exact hne eb List.mem_cons_self e
    · rcases List.mem_cons.1 e with e | e
      · omega
      · exact hne y (List.mem_cons_of_mem _ e) rfl
  refine ⟨_, w3.heap.size, l1.take (fit (room - W) (l1.map f)), pf7, nf7, rfl, ⟨⟨?_, ?_, J7.it.1, ?_, J7.it.2, ?_⟩, ep, hsz, fun b hb => J1.it.2.2 b (List.mem_of_mem_take hb)⟩, ⟨?_⟩, ⟨?_⟩⟩
  · rw [em, sumL_cons, HS2.it, Int.add_comm]
    exact D6.it.later K7.it (hn7 c (by simp))
  · rw [fk_cons (fun e => HN.it (List.mem_cons_of_mem _ e)), List.length_cons]
    exact M6.it.later K7.it (hn7 mb (by simp))
  · refine List.nodup_cons.2 ⟨fun e => ?_, List.nodup_cons.2 ⟨fun e => HN.it (List.mem_cons_of_mem _ e), (List.nodup_cons.1 C3.it.nodup).2⟩⟩
    rcases List.mem_cons.1 e with e | e
    · exact HN.it (by rw [← e]; exact List.mem_cons_self)
    · exact (List.nodup_cons.1 C3.it.nodup).1 e
  · rw [ep]; exact HO.it
  · have r := O3.it
    rw [hL1, e1] at r
    refine owns_later ?_ k37 (fun b hb e => ?_)
    · exact owns_base_le r K1.it.size
    · have h2 := owns_base r b hb
      have : b < w1.heap.size := by
        rcases hms b e with e' | e' | e'
        · exact Nat.lt_of_lt_of_le (HM.it b (.inl e')) K1.it.size
        · exact Nat.lt_of_lt_of_le (HM.it b (.inr (.inl e'))) K1.it.size
        · exact Nat.lt_of_lt_of_le (HM.it b (.inr (.inr e'))) K1.it.size
      omega
  · exact K1.it.trans ((K3.it.trans k37).mono (fun x e _ => hms x e))
end Go.Proofs.YthjeeianlgkaaaaDoor.Lultt

/-
  package lru (ltt): Get, Peek
-/
namespace Go.Proofs.YthjeeianlgkaaaaDoor.Lultt
open Go.RowKit

variable {w w' : World} {own own' : Nat → Nat} {i c mb eb s b p q j : Nat} {l : List Nat} {f : Nat → Rx} {pf nf : Nat → Option Nat} {room k now W : Int} {L M : List Rx} {I : Nat → Prop} {A : Nat → Addr} {x : Rx} {er : Value}

theorem find_fk' (l : List Nat) (f : Nat → Rx) (k : Int) : findL (l.map f) k = (fk l (fun b => (f b).k) k).map f := find_fk k
theorem get_nil (k now : Int) (w : World) : Calls Tryd.prog 25 #[.pointer none, kv k, .int .i64 now] w fun e w' => e = .returned (.tuple #[(.string ByteArray.empty), .bool false]) ∧ w' = w := by
  have hf := find_nil k w
  go_enter Tryd.func25, Tryd.ntmps25
  go_wp2_with (first | (go_at_call 53; refine hf.mono ?_; rintro e w' ⟨rfl, rfl⟩) | fail)
  go_ret2
  exact ⟨rfl, rfl⟩
theorem get_none (h : CaI w c mb eb l f pf nf room) (hk : Ky k) (now : Int) (hm : findL (l.map f) k = none) : Calls Tryd.prog 25 #[ptr c, kv k, .int .i64 now] w fun e w' => e = .returned (.tuple #[(.string ByteArray.empty), .bool false]) ∧ w' = w := by
  have hf := find_ h hk
  rw [find_fk', Option.map_eq_none_iff] at hm
  rw [hm] at hf
  simp only [vF] at hf
  go_enter Tryd.func25, Tryd.ntmps25
  go_wp2_with (first | (go_at_call 53; refine hf.mono ?_; rintro e w' ⟨rfl, rfl⟩) | fail)
  go_ret2
  exact ⟨rfl, rfl⟩
set_option maxHeartbeats 1000000 in
theorem get_old (h : CaI w c mb eb l f pf nf room) (hk : Ky k) (now : Int) (hm : findL (l.map f) k = some x) (hu : x.u ≤ now) : Calls Tryd.prog 25 #[ptr c, kv k, .int .i64 now] w fun e w' => e = .returned (.tuple #[(.string ByteArray.empty), .bool false]) ∧ ∃ l2 pf' nf', Aside (CaI w' c mb eb l2 f pf' nf' room ∧ l2.map f = dropL (l.map f) k ∧ (∀ b ∈ l2, b ∈ l)) ∧ Aside (Keeps (Mine c mb eb l) w w') := by
  have hf := find_ h hk
  rw [find_fk'] at hm
  obtain ⟨b, hb, rfl⟩ := Option.map_eq_some_iff.1 hm
  obtain ⟨bm, ek⟩ := fk_some hb
  rw [hb] at hf
  simp only [vF] at hf
  obtain ⟨j, hj⟩ := List.mem_iff_getElem?.1 bm
  have TO := tooOld_ (h.sts b (List.mem_cons_of_mem _ bm)) now
  rw [show (!decide (now < (f b).u)) = true by simp; omega] at TO
  have LG := Aside.mk (letGo_ h hj)
  have E1 := Aside.mk (map_eraseD h.inj hj (List.nodup_cons.1 h.nodup).2)
  clear h hm hb
  go_enter Tryd.func25, Tryd.ntmps25
  go_wp2_with (first | (go_at_call 53; refine hf.mono ?_; rintro e w' ⟨rfl, rfl⟩) | (go_at_call 54; refine TO.mono ?_; rintro e w' ⟨rfl, rfl⟩) | (go_at_call 55; refine LG.it.mono ?_; clear LG; rintro e w3 ⟨rfl, pf', nf', J1, J2⟩) | fail)
  go_ret2
  exact ⟨rfl, _, pf', nf', ⟨J1.it.1, by rw [E1.it, ek], fun b hb => List.mem_of_mem_eraseIdx hb⟩, ⟨J2.it⟩⟩
set_option maxHeartbeats 2000000 in
theorem get_good (h : CaI w c mb eb l f pf nf room) (hk : Ky k) (now : Int) (hm : findL (l.map f) k = some x) (hu : now < x.u) : Calls Tryd.prog 25 #[ptr c, kv k, .int .i64 now] w fun e w' => e = .returned (.tuple #[tv x.t, .bool true]) ∧ ∃ l2 pf' nf', Aside (CaI w' c mb eb l2 f pf' nf' room ∧ l2.map f = x :: dropL (l.map f) k ∧ (∀ b ∈ l2, b ∈ l)) ∧ Aside (Keeps (Mine c mb eb l) w w') := by
  have hf := find_ h hk
  have HF := Aside.mk (h.ok.first hm)
  rw [find_fk'] at hm
  obtain ⟨b, hb, rfl⟩ := Option.map_eq_some_iff.1 hm
  obtain ⟨bm, ek⟩ := fk_some hb
  rw [hb] at hf
  simp only [vF] at hf
  obtain ⟨j, hj⟩ := List.mem_iff_getElem?.1 bm
  have hn := List.nodup_cons.1 h.nodup
  have TO := tooOld_ (h.sts b (List.mem_cons_of_mem _ bm)) now
  rw [show (!decide (now < (f b).u)) = false by simp; omega] at TO
  have LV := Aside.mk (leave_ h.sts h.nodup h.ring hj)
  have E1 := Aside.mk (map_eraseD h.inj hj hn.2)
  have H := Aside.mk h
  have HJ := Aside.mk hj
  clear h hm hb hj
  go_enter Tryd.func25, Tryd.ntmps25
  go_upto_region 9 with (first | (go_at_call 53; refine hf.mono ?_; rintro e w' ⟨rfl, rfl⟩) | (go_at_call 54; refine TO.mono ?_; rintro e w' ⟨rfl, rfl⟩) | (go_at_call 56; refine LV.it.mono ?_; clear LV; rintro e w3 ⟨rfl, pf', nf', J1, J2⟩) | fail)
  have hbe : b ≠ eb := fun e => hn.1 (e ▸ bm)
  have hs : b ∉ eb :: l.eraseIdx j := by
    intro e
    rcases List.mem_cons.1 e with e | e
    · exact hbe e
    · obtain ⟨i, hi⟩ := List.mem_iff_getElem?.1 e
      rw [erase_get] at hi
      have := nodup_idx hn.2 hi HJ.it
      split at this <;> omega
  have hn2 : (eb :: l.eraseIdx j).Nodup := List.nodup_cons.2 ⟨fun e => hn.1 (List.mem_of_mem_eraseIdx e), hn.2.eraseIdx j⟩
  have LD := Aside.mk (lead_ (x := f b) (H.it.box.later J2.it (fun e => H.it.box_ne c e rfl)) J1.it.1 hn2 J1.it.2.1 hs J1.it.2.2)
  go_upto_region 10 with (first | (go_at_call 49; refine LD.it.mono ?_; clear LD; rintro e w7 ⟨rfl, pf7, nf7, J7, K7⟩) | fail)
  have S7 := J7.it.1
  rw [upd_self] at S7
  have c1 : w7.cell? ⟨b, 1, none⟩ = some (tv (f b).t) := (S7 b (List.mem_cons_of_mem _ List.mem_cons_self)).cell 1
  go_wp2_with fail
  go_ret2
  have hsub : ∀ y ∈ eb :: b :: l.eraseIdx j, y ∈ eb :: l := by
    intro y hy
    rcases List.mem_cons.1 hy with e | e
    · rw [e]; exact List.mem_cons_self
    · rcases List.mem_cons.1 e with e | e
      · rw [e]; exact List.mem_cons_of_mem _ bm
      · exact List.mem_cons_of_mem _ (List.mem_of_mem_eraseIdx e)
  have em : (b :: l.eraseIdx j).map f = f b :: dropL (l.map f) k := by rw [List.map_cons, E1.it, ek]
  have k37 : Keeps (fun x => x ∈ eb :: l) w' w7 := J2.it.next K7.it (fun x e _ => hsub x e)
  refine ⟨rfl, b :: l.eraseIdx j, pf7, nf7, ⟨⟨?_, ?_, S7, ?_, J7.it.2, ?_⟩, em, fun y hy => ?_⟩, ⟨k37.mono (fun x e _ => .inr (.inr e))⟩⟩
  · rw [em, sumL_cons, ← ek, ← E1.it, sum_erase H.it HJ.it]
    have := H.it.box.later k37 (fun e => H.it.box_ne c e rfl)
    rw [show (f b).w + (sumL (l.map f) - (f b).w) = sumL (l.map f) by omega]
    exact this
  · rw [List.length_cons, List.length_eraseIdx_of_lt (lt_of_some HJ.it), fk_front H.it.inj hn.2 HJ.it]
    rw [show l.length - 1 + 1 = l.length by have := lt_of_some HJ.it; omega]
    exact H.it.map.later k37 (fun e => H.it.map_ne mb e rfl)
  · exact List.nodup_cons.2 ⟨fun e => by
      rcases List.mem_cons.1 e with e | e
      · exact hbe e.symm
      · exact hn.1 (List.mem_of_mem_eraseIdx e), List.nodup_cons.2 ⟨fun e => hs (List.mem_cons_of_mem _ e), hn.2.eraseIdx j⟩⟩
  · rw [em]; exact ek ▸ HF.it
  · rcases List.mem_cons.1 hy with e | e
    · rw [e]; exact bm
    · exact List.mem_of_mem_eraseIdx e
end Go.Proofs.YthjeeianlgkaaaaDoor.Lultt

/-
  package lru (ltt): Keys, Expire
-/
namespace Go.Proofs.YthjeeianlgkaaaaDoor.Lultt
open Go.RowKit

variable {w w' : World} {own own' : Nat → Nat} {i c mb eb s b p q j : Nat} {l : List Nat} {f : Nat → Rx} {pf nf : Nat → Option Nat} {room k now W : Int} {L M : List Rx} {I : Nat → Prop} {A : Nat → Addr} {x : Rx} {er : Value}

theorem keys_nil (w : World) : Calls Tryd.prog 32 #[.pointer none] w fun e w' => e = .returned (.slice none 0 0) ∧ w' = w := by
  go_enter Tryd.func32, Tryd.ntmps32
  go_wp2
  go_ret
  exact ⟨rfl, rfl⟩
theorem expire_nil (now : Int) (w : World) : Calls Tryd.prog 29 #[.pointer none, .int .i64 now] w fun e w' => e = .returned (.slice none 0 0) ∧ w' = w := by
  go_enter Tryd.func29, Tryd.ntmps29
  go_wp2
  go_ret
  exact ⟨rfl, rfl⟩
/-- where the j-th of the order is told: behind its forerunner -/
theorem nf_at (h : Rg (eb :: l) pf nf) (j : Nat) : ∀ b, (eb :: l)[j]? = some b → nf b = some ((l ++ [eb])[j]?.getD eb) := by
  intro b hj
  have hlt := lt_of_some hj
  rw [(h j b hj).1]
  unfold nx
  rw [List.length_cons] at hlt ⊢
  split
  · have : j = l.length := by omega
    subst this
    simp
  · rw [List.getElem?_cons_succ, List.getElem?_append_left (by omega), List.getElem?_eq_getElem (by omega)]
    rfl
def atB (eb : Nat) (l : List Nat) (j : Nat) : Nat := (l[j]?).getD eb
theorem nf_atB (h : Rg (eb :: l) pf nf) (j : Nat) (hj : j < l.length) : ∃ b, l[j]? = some b ∧ atB eb l j = b ∧ nf b = some (atB eb l (j + 1)) := by
  refine ⟨l[j], List.getElem?_eq_getElem hj, by unfold atB; rw [List.getElem?_eq_getElem hj]; rfl, ?_⟩
  rw [nf_at h (j + 1) l[j] (by rw [List.getElem?_cons_succ]; exact List.getElem?_eq_getElem hj)]
  unfold atB
  by_cases h1 : j + 1 < l.length
  · rw [List.getElem?_append_left h1, List.getElem?_eq_getElem h1]
  · have : j + 1 = l.length := by omega
    rw [this, List.getElem?_append_right (Nat.le_refl _), List.getElem?_eq_none (Nat.le_refl _), Nat.sub_self]
    rfl
theorem nf_at0 (h : Rg (eb :: l) pf nf) : nf eb = some (atB eb l 0) := by
  rw [nf_at h 0 eb rfl]
  unfold atB
  cases l <;> rfl
theorem atB_end : atB eb l l.length = eb := by unfold atB; rw [List.getElem?_eq_none (Nat.le_refl _)]; rfl
theorem atB_ne (hn : (eb :: l).Nodup) (hj : j < l.length) : atB eb l j ≠ eb := by
  unfold atB
  rw [List.getElem?_eq_getElem hj]
  intro e
  exact (List.nodup_cons.1 hn).1 (e ▸ List.getElem_mem hj)
theorem info_th : ∃ j, Tryd.prog.info? 92 = some j ∧ j.size ≠ 0 := by
  have h : ((Tryd.prog.info? 92).map fun j => decide (j.size ≠ 0)) = some true := by kernel_rfl
  cases e : Tryd.prog.info? 92 with
  | none => rw [e] at h; cases h
  | some j => rw [e] at h; exact ⟨j, rfl, of_decide_eq_true (Option.some.inj h)⟩
theorem th_same (w : World) (b : Nat) : (binOp BinOp.neq 90 (ptr b) (ptr b)).run Tryd.prog w = .ok (.bool false) w := by
  obtain ⟨j, hte, _⟩ := info_th
  have h : ∀ d : Nat, (Op.equalIn (d + 1) 90 (ptr b) (ptr b)).run Tryd.prog w = .ok true w := fun d => by
    simp [Op.equalIn, run_underlying Tryd.underlying90, sizeOf, typeInfo, hte, run_sameAddr_same]
  simp only [binOp]
  simp [Op.equal, Op.maxDepth, h 9999]
theorem th_other {xs ys : List Value} {x : Nat} (hne : x ≠ b) (h1 : Cells w x 92 xs) (h2 : Cells w b 92 ys) : (binOp BinOp.neq 90 (ptr x) (ptr b)).run Tryd.prog w = .ok (.bool true) w := by
  obtain ⟨j, hte, hsz⟩ := info_th
  have h : ∀ d : Nat, (Op.equalIn (d + 1) 90 (ptr x) (ptr b)).run Tryd.prog w = .ok false w := fun d => by
    simp [Op.equalIn, run_underlying Tryd.underlying90, sizeOf, typeInfo, hte, hsz, run_sameAddr_other w (a := ⟨x, 0, none⟩) (b := ⟨b, 0, none⟩) (fun e => by cases e; exact hne rfl) h1 h2]
  simp only [binOp]
  simp [Op.equal, Op.maxDepth, h 9999]
def natP : Value → Nat | .slice _ n _ => n | _ => 0
def blkP : Value → Nat | .pointer (some a) => a.block | _ => 0
theorem idx_atB (hn : (eb :: l).Nodup) (hj : j ≤ l.length) : l.idxOf (atB eb l j) = j := by
  rcases Nat.eq_or_lt_of_le hj with rfl | hlt
  · rw [atB_end]
    exact List.idxOf_eq_length (List.nodup_cons.1 hn).1
  · unfold atB
    rw [List.getElem?_eq_getElem hlt]
    exact (List.nodup_cons.1 hn).2.idxOf_getElem j hlt
theorem mk_keys (w : World) (n : Nat) (hn : n * 16 ≤ 140737488355328) : ∃ w' c, (Instr.makeSlice 59 (.int .i64 0) (.int .i64 n)).run Tryd.prog w = .ok (.slice (some ⟨w.heap.size, 0, none⟩) 0 c) w' ∧ Aside (w'.ownsRow w.heap.size 9 1 (.slice (some ⟨w.heap.size, 0, none⟩) 0 c) 0 []) ∧ Aside (Keeps Nowhere w w') := by
  obtain ⟨i, hi, hz0, hz1, hz2⟩ := info_parts infoK
  have h := run_make (P := Tryd.prog) w 59 9 i _ Tryd.underlying59 hi hz0 .i64 .i64 0 n (by omega) (by omega) (by rw [hz2]; omega) (by omega)
  refine ⟨_, _, h, ⟨?_⟩, ⟨(Keeps.refl _ _).alloc _⟩⟩
  exact World.ownsRow_made w _ _ (Nat.le_refl _) (by unfold maxLen; omega) (by simp [madeCells, hz1])
theorem Rx_take_snoc {x : Rx} (h : L[j]? = some x) : L.take (j + 1) = L.take j ++ [x] := by rw [List.take_add_one, h]; rfl
theorem map_at (hb : l[j]? = some b) : (l.map f)[j]? = some (f b) := by rw [List.getElem?_map, hb]; rfl
set_option maxHeartbeats 2000000 in
set_option maxRecDepth 20000 in
theorem keys_ (h : CaI w c mb eb l f pf nf room) (hmax : l.length * 16 ≤ 140737488355328) :
    Calls Tryd.prog 32 #[ptr c] w fun e w' => ∃ v, e = .returned v ∧ Aside (w'.ownsRow w.heap.size 9 1 v l.length (rk (l.map f))) ∧ Aside (Keeps Nowhere w w') := by
  have c2 : w.cell? ⟨c, 2, none⟩ = some (.map (some mb)) := h.box.cell 2
  have hl := h.map.len 3
  have H := Aside.mk h
  obtain ⟨w1, q1, hmk, O1, K1⟩ := mk_keys w l.length hmax
  have c3 : w1.cell? ⟨c, 3, none⟩ = some (ptr eb) := (h.quiet K1.it).box.cell 3
  have e1 : w1.cell? ⟨eb, 5, none⟩ = some (ptr (atB eb l 0)) := by
    have := ((h.quiet K1.it).sts eb List.mem_cons_self).cell 5
    rw [nf_at0 h.ring] at this
    exact this
  clear h
  go_enter Tryd.func32, Tryd.ntmps32
  go_upto_region 3 with fail
  go_upto_region 4 with (first | (go_in; refine wpList_make0 rfl _ _ rfl l.length rfl w1 _ hmk ?_) | fail)
  go_upto_region 5 with fail
  go_loopw [3, 4] (fun gv tv wr => ∃ (m : Nat) (ga : Option Addr) (gc : Nat), gv = .slice ga m gc ∧ tv = ptr (atB eb l m) ∧ m ≤ l.length ∧ Aside (wr.ownsRow w.heap.size 9 1 (.slice ga m gc) m (rk ((l.map f).take m))) ∧ Aside (Keeps Nowhere w wr)) (fun gv _ _ => l.length - natP gv)
  case atStart => exact ⟨0, _, _, rfl, rfl, Nat.zero_le _, O1, K1⟩
  case round =>
    obtain ⟨m, ga, gc, rfl, rfl, hm, O, K⟩ := hrel
    have C := H.it.quiet K.it
    have c3 : wr.cell? ⟨c, 3, none⟩ = some (ptr eb) := C.box.cell 3
    rcases Nat.eq_or_lt_of_le hm with rfl | hlt
    · rw [atB_end]
      have NQ := th_same wr eb
      clear e1 C hmk hl
      go_wp2_with fail
      go_ret
      refine ⟨_, rfl, ⟨?_⟩, K⟩
      have r := O.it
      rw [List.take_of_length_le (by rw [List.length_map]; exact Nat.le_refl _)] at r
      exact r
    · obtain ⟨b, hb, eb', en⟩ := nf_atB C.ring m hlt
      have hne := atB_ne C.nodup hlt
      rw [eb'] at hne ⊢
      have B := C.sts b (List.mem_cons_of_mem _ (List.mem_of_getElem? hb))
      have HB := Aside.mk hb
      have k1 := B.cell 0
      have k2 := B.cell 1
      simp only [List.getElem?_cons_zero, List.getElem?_cons_succ] at k1 k2
      have NQ := th_other (b := eb) hne B (C.sts eb List.mem_cons_self)
      have b1 : (m + 1) * 16 ≤ 140737488355328 := Nat.le_trans (Nat.mul_le_mul_right _ hlt) hmax
      have b2 : m + 1 ≤ maxLen := Nat.le_of_lt_succ (Nat.lt_succ_of_lt (lt_max b1))
      have H' : Aside (∀ w', Keeps Nowhere w w' → w'.cell? ⟨b, 5, none⟩ = some (ptr (atB eb l (m + 1)))) := ⟨fun w' k => by
        have := ((H.it.quiet k).sts b (List.mem_cons_of_mem _ (List.mem_of_getElem? HB.it))).cell 5
        rw [en] at this
        exact this⟩
      clear e1 C hmk hl hb en hne B
      go_wp2_with (first
        | (at_builtin; refine wpList_appendR rfl _ _ 59 rfl 9 (.string ByteArray.empty) 1 16 Tryd.underlying59 infoK rfl (by decide) wr ((Keeps.refl _ _).alloc _) w.heap.size _ m _ O.it _ 1 (kcs (f b).k) (readsK_new wr 9 (kcs (f b).k)) rk_cells b1 b2 K.it.size rfl rfl ?_
           intro v' w' o5 k5 b5
           have K5 : Aside (Keeps Nowhere w w') := ⟨(K.it.alloc _).next k5.it (fun x e hlt => by have := owns_base O.it x e; omega)⟩
           have y1 := H'.it w' K5.it)
        | fail)
      go_roundw
      case rel =>
        obtain ⟨p1, p2, p3, hv'⟩ := owns_shapeK o5.it
        obtain rfl : p2 = m + 1 := by
          rcases o5.it.2 with ⟨e, h0⟩ | ⟨g, cap, cur, e, _⟩
          · exact absurd h0 (by omega)
          · rw [hv'] at e; injection e
        subst hv'
        refine ⟨m + 1, p1, p3, rfl, rfl, hlt, ⟨?_⟩, K5⟩
        rw [Rx_take_snoc (map_at HB.it), rk_append, rk_one]
        exact o5.it
      case measure =>
        obtain ⟨p1, p2, p3, hv'⟩ := owns_shapeK o5.it
        obtain rfl : p2 = m + 1 := by
          rcases o5.it.2 with ⟨e, h0⟩ | ⟨g, cap, cur, e, _⟩
          · exact absurd h0 (by omega)
          · rw [hv'] at e; injection e
        subst hv'
        show l.length - (m + 1) < l.length - m
        omega
theorem stay_snoc (now : Int) {j : Nat} (h : L[j]? = some x) : stayL (L.take (j + 1)) now = stayL (L.take j) now ++ (if now < x.u then [x] else []) := by
  rw [Rx_take_snoc h]
  unfold stayL
  rw [List.filter_append]
  by_cases e : now < x.u <;> simp [e]
theorem old_snoc (now : Int) {j : Nat} (h : L[j]? = some x) : oldL (L.take (j + 1)) now = oldL (L.take j) now ++ (if now < x.u then [] else [x]) := by
  rw [Rx_take_snoc h]
  unfold oldL
  rw [List.filter_append]
  by_cases e : now < x.u <;> simp [e]
theorem old_le (now : Int) (j : Nat) : (oldL (L.take j) now).length ≤ j := by
  have h1 : (oldL (L.take j) now).length ≤ (L.take j).length := List.length_filter_le _ _
  rw [List.length_take] at h1
  omega
/-- a walk that lets go: where it stands (m of lc, j of l) -/
structure Ex (w wr : World) (c mb eb : Nat) (l lc : List Nat) (f : Nat → Rx) (pf nf : Nat → Option Nat) (room now : Int) (m j : Nat) (gv : Value) : Prop where
  ca : CaI wr c mb eb lc f pf nf room
  sub : ∀ b ∈ lc, b ∈ l
  tk : (lc.take m).map f = stayL ((l.map f).take j) now
  dp : lc.drop m = l.drop j
  ml : m ≤ lc.length
  row : wr.ownsRow w.heap.size 9 1 gv (oldL ((l.map f).take j) now).length (rk (oldL ((l.map f).take j) now))
  kp : Keeps (Mine c mb eb l) w wr
variable {lc : List Nat} {wr : World} {m : Nat} {gv : Value}
theorem Ex.at (h : Ex w wr c mb eb l lc f pf nf room now m j gv) (i : Nat) : lc[m + i]? = l[j + i]? := by
  have := congrArg (fun z => z[i]?) h.dp
  simpa [List.getElem?_drop] using this
theorem Ex.atB (h : Ex w wr c mb eb l lc f pf nf room now m j gv) (i : Nat) : atB eb lc (m + i) = atB eb l (j + i) := by
  unfold Lultt.atB
  rw [h.at i]
set_option maxHeartbeats 4000000 in
set_option maxRecDepth 20000 in
theorem expire_ (h : CaI w c mb eb l f pf nf room) (hmax : l.length * 16 ≤ 140737488355328) (now : Int) :
    Calls Tryd.prog 29 #[ptr c, .int .i64 now] w fun e w' => ∃ v l2 pf' nf', e = .returned v ∧ Aside (CaI w' c mb eb l2 f pf' nf' room ∧ l2.map f = stayL (l.map f) now ∧ (∀ b ∈ l2, b ∈ l)) ∧ Aside (w'.ownsRow w.heap.size 9 1 v (oldL (l.map f) now).length (rk (oldL (l.map f) now))) ∧ Aside (Keeps (Mine c mb eb l) w w') := by
  have H := Aside.mk h
  have HM := Aside.mk h.mine
  have c3 : w.cell? ⟨c, 3, none⟩ = some (ptr eb) := h.box.cell 3
  have e1 : w.cell? ⟨eb, 5, none⟩ = some (ptr (atB eb l 0)) := by
    have := (h.sts eb List.mem_cons_self).cell 5
    rw [nf_at0 h.ring] at this
    exact this
  clear h
  go_enter Tryd.func29, Tryd.ntmps29
  go_upto_region 5 with fail
  go_loopw [5, 6] (fun gv tv wr => ∃ (m j : Nat) (lc : List Nat) (pf' nf' : Nat → Option Nat) (ga : Option Addr) (gn gc : Nat), gv = .slice ga gn gc ∧ tv = ptr (atB eb l j) ∧ j ≤ l.length ∧ Aside (Ex w wr c mb eb l lc f pf' nf' room now m j (.slice ga gn gc))) (fun _ tv _ => l.length - l.idxOf (blkP tv))
  case atStart =>
    refine ⟨0, 0, l, pf, nf, none, 0, 0, rfl, rfl, Nat.zero_le _, ⟨H.it, fun _ h => h, rfl, rfl, Nat.zero_le _, ?_, Keeps.refl _ _⟩⟩
    exact World.ownsRow_nil _ _ _ _
  case round =>
    obtain ⟨m, j, lc, pf', nf', ga, gn, gc, rfl, rfl, hj, X⟩ := hrel
    have C := X.it.ca
    have c3 : wr.cell? ⟨c, 3, none⟩ = some (ptr eb) := C.box.cell 3
    rcases Nat.eq_or_lt_of_le hj with rfl | hlt
    · rw [atB_end]
      have NQ := th_same wr eb
      clear e1 C
      go_wp2_with fail
      go_ret
      have e2 := X.it.dp
      rw [List.drop_of_length_le (Nat.le_refl _)] at e2
      have hm : lc.take m = lc := List.take_of_length_le (List.drop_eq_nil_iff.1 e2)
      have tk := X.it.tk
      have row := X.it.row
      rw [hm, List.take_of_length_le (by rw [List.length_map]; exact Nat.le_refl _)] at tk
      rw [List.take_of_length_le (by rw [List.length_map]; exact Nat.le_refl _)] at row
      exact ⟨_, lc, pf', nf', rfl, ⟨X.it.ca, tk, X.it.sub⟩, ⟨row⟩, ⟨X.it.kp⟩⟩
    · have hlc : m < lc.length := by
        have := congrArg List.length X.it.dp
        rw [List.length_drop, List.length_drop] at this
        omega
      obtain ⟨b, hb, eb', en⟩ := nf_atB C.ring m hlc
      have hbl : l[j]? = some b := by rw [← hb]; exact (X.it.at 0).symm
      have hidx : l.idxOf b = j := by
        have := idx_atB H.it.nodup hj
        unfold atB at this
        rw [hbl] at this
        exact this
      have hat : atB eb l j = b := by rw [← eb']; exact (X.it.atB 0).symm
      rw [show atB eb lc (m + 1) = atB eb l (j + 1) from X.it.atB 1] at en
      have hne := atB_ne C.nodup hlc
      rw [eb'] at hne
      rw [hat]
      have B := C.sts b (List.mem_cons_of_mem _ (List.mem_of_getElem? hb))
      have NQ := th_other (b := eb) hne B (C.sts eb List.mem_cons_self)
      have HB := Aside.mk (And.intro hb (And.intro hbl (And.intro hidx hat)))
      have TO := tooOld_ B now
      have k1 := B.cell 5
      rw [en] at k1
      have k1' : wr.cell? ⟨b, 5, none⟩ = some (ptr (atB eb l (j + 1))) := k1
      have LG := Aside.mk (letGo_ C hb)
      clear e1 C hb hbl hat eb' k1 B
      by_cases hu : now < (f b).u
      · rw [show (!decide (now < (f b).u)) = false by simp [hu]] at TO
        clear en hne LG
        go_wp2_with (first | (go_at_call 54; refine TO.mono ?_; rintro e w' ⟨rfl, rfl⟩) | fail)
        go_roundw
        case rel =>
          obtain ⟨hb, hbl, hidx, hat⟩ := HB.it
          refine ⟨m + 1, j + 1, lc, pf', nf', _, _, _, rfl, rfl, hlt, ⟨X.it.ca, X.it.sub, ?_, ?_, hlc, ?_, X.it.kp⟩⟩
          · rw [stay_snoc now (map_at hbl), if_pos hu, ← X.it.tk, List.take_add_one, hb, List.map_append]; rfl
          · rw [← List.drop_drop, X.it.dp, List.drop_drop]
          · rw [old_snoc now (map_at hbl), if_pos hu, List.append_nil]; exact X.it.row
        case measure =>
          show l.length - l.idxOf (atB eb l (j + 1)) < l.length - l.idxOf b
          rw [idx_atB H.it.nodup hlt, HB.it.2.2.1]
          omega
      · rw [show (!decide (now < (f b).u)) = true by simp [hu]] at TO
        have GN : gn = (oldL ((l.map f).take j) now).length := by
          rcases X.it.row.2 with ⟨e, h0⟩ | ⟨g, cap, cur, e, _⟩
          · injection e with e1 e2 e3; omega
          · injection e
        have g1 := old_le (L := l.map f) now j
        have b1 : (gn + 1) * 16 ≤ 140737488355328 := Nat.le_trans (Nat.mul_le_mul_right _ (by omega)) hmax
        have b2 : gn + 1 ≤ maxLen := Nat.le_of_lt_succ (Nat.lt_succ_of_lt (lt_max b1))
        have O : Aside (wr.ownsRow w.heap.size 9 1 (.slice ga gn gc) gn (rk (oldL ((l.map f).take j) now))) := ⟨by have r := X.it.row; rw [← GN] at r; exact r⟩
        have bm : b < w.heap.size := HM.it b (.inr (.inr (List.mem_cons_of_mem _ (List.mem_of_getElem? HB.it.2.1))))
        have EN := Aside.mk en
        clear en hne GN g1 hidx
        go_wp2_with (first
          | (go_at_call 54; refine TO.mono ?_; clear TO NQ; rintro e w' ⟨rfl, rfl⟩)
          | (go_at_call 55; refine LG.it.mono ?_; clear LG; rintro e w3 ⟨rfl, pf2, nf2, J1, J2⟩
             obtain ⟨C3, B3⟩ := J1.it
             rw [EN.it] at B3
             have O3 := Aside.mk (owns_later O.it J2.it (fun x hx e => by
               have h1 := owns_base O.it x hx
               have h2 : x < w.heap.size := (by
                 refine HM.it x ?_
                 rcases e with e | e | e
                 · exact .inl e
                 · exact .inr (.inl e)
                 · rcases List.mem_cons.1 e with e | e
                   · exact .inr (.inr (by rw [e]; exact List.mem_cons_self))
                   · exact .inr (.inr (List.mem_cons_of_mem _ (X.it.sub x e))))
               omega))
             have z0 := B3.cell 0
             simp only [List.getElem?_cons_zero] at z0)
          | (at_builtin; refine wpList_appendR rfl _ _ 59 rfl 9 (.string ByteArray.empty) 1 16 Tryd.underlying59 infoK rfl (by decide) w3 ((Keeps.refl _ _).alloc _) w.heap.size _ gn _ O3.it _ 1 (kcs (f b).k) (readsK_new w3 9 (kcs (f b).k)) rk_cells b1 b2 (Nat.le_trans X.it.kp.size J2.it.size) rfl rfl ?_
             intro v' w' o5 k5 b5
             have kA : Keeps (fun x => w.heap.size ≤ x) w3 w' := (((Keeps.refl _ _).alloc _).trans (k5.it.mono (fun x e _ => owns_base O3.it x e)))
             have y1 : w'.cell? ⟨b, 5, none⟩ = some (ptr (atB eb l (j + 1))) := (B3.later kA (fun e => by omega)).cell 5)
          | fail)
        go_roundw
        case rel =>
          obtain ⟨p1, p2, p3, hv'⟩ := owns_shapeK o5.it
          subst hv'
          obtain ⟨hb, hbl, hidx, hat⟩ := HB.it
          have hml : m ≤ (lc.eraseIdx m).length := by rw [List.length_eraseIdx_of_lt hlc]; omega
          refine ⟨m, j + 1, lc.eraseIdx m, pf2, nf2, p1, p2, p3, rfl, rfl, hlt, ⟨C3.later kA ?_ ?_ ?_, fun x hx => X.it.sub x (List.mem_of_mem_eraseIdx hx), ?_, ?_, hml, ?_, ?_⟩⟩
          · intro e; have := HM.it c (.inl rfl); omega
          · intro e; have := HM.it mb (.inr (.inl rfl)); omega
          · intro x hx e
            have h2 : x < w.heap.size := HM.it x (by
              rcases List.mem_cons.1 hx with e | e
              · exact .inr (.inr (by rw [e]; exact List.mem_cons_self))
              · exact .inr (.inr (List.mem_cons_of_mem _ (X.it.sub x (List.mem_of_mem_eraseIdx e)))))
            omega
          · rw [stay_snoc now (map_at hbl), if_neg (by omega), List.append_nil, ← X.it.tk]
            congr 1
            rw [List.eraseIdx_eq_take_drop_succ, List.take_append_of_le_length (by rw [List.length_take]; omega), List.take_take, Nat.min_self]
          · rw [← List.drop_drop, ← X.it.dp, List.drop_drop, List.eraseIdx_eq_take_drop_succ, List.drop_append_of_le_length (by rw [List.length_take]; omega), List.drop_of_length_le (by rw [List.length_take]; omega), List.nil_append]
          · have o6 := o5.it
            have GN : gn = (oldL ((l.map f).take j) now).length := by
              rcases X.it.row.2 with ⟨e, h0⟩ | ⟨g, cap, cur, e, _⟩
              · injection e with e1 e2 e3; omega
              · injection e
            rw [old_snoc now (map_at hbl), if_neg (by omega), List.length_append, rk_append, rk_one, ← GN]
            exact o6
          · refine (X.it.kp.next J2.it (fun x e _ => ?_)).next kA (fun x e hlt => by omega)
            rcases e with e | e | e
            · exact .inl e
            · exact .inr (.inl e)
            · rcases List.mem_cons.1 e with e | e
              · exact .inr (.inr (by rw [e]; exact List.mem_cons_self))
              · exact .inr (.inr (List.mem_cons_of_mem _ (X.it.sub x e)))
        case measure =>
          show l.length - l.idxOf (atB eb l (j + 1)) < l.length - l.idxOf b
          rw [idx_atB H.it.nodup hlt, HB.it.2.2.1]
          omega
end Go.Proofs.YthjeeianlgkaaaaDoor.Lultt

