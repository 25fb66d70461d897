/-
  package table of numbers: Count, at the closure cnt
-/
import Derived.Test.YtcdgmbaimbmdmaaDoorTbEint
namespace Go.Proofs.YtcdgmbaimbmdmaaDoor.Tccnt
open Go.RowKit Go.Shelf Tbint
attribute [local go_sem] Oper.semAt_some

theorem keeps_grown' {S : Nat → Prop} {w W W' : World} {row : Option Nat} (h : Keeps S w W) (hg : W.grownBy W' row) (hr : ∀ r, row = some r → S r) : Keeps S w W' :=
  h.next (S' := fun k => row = some k) ⟨hg.os, hg.tape, hg.output, hg.size, fun k hk hn => hg.block k hk (fun e => hn e.symm)⟩ (fun k e _ => hr k e)

set_option maxRecDepth 8000 in
set_option maxHeartbeats 1000000 in
theorem count_of {w : World} (x0 : Value) (qa qt qr qo : Nat) (L : Tl Int) (hL : L.length ≤ 4294967296) (S : Nat → Prop) (hS : ∀ k, S k → k < w.heap.size) (q : Nat × Int → Bool) (P : Tl Int → World → Prop)
    (hP : ∀ pre W W', P pre W → KeptAt S W W' → P pre W') (h0 : P [] w)
    (hcall : ∀ pre x W, P pre W → Keeps S w W → pre.length < L.length → Calls Tryd.prog 29 #[e32 x.1, .int .i64 x.2, ptr qa, ptr qt, ptr qr, ptr qo] W fun e w' => e = .returned (.bool (q x)) ∧ Aside (P (pre ++ [x]) w') ∧ Aside (Keeps S W w') ∧ Aside (KeepsOthers W w'))
    (AL : ∀ W, Keeps Nowhere w W → Calls Tryd.prog 8 #[x0] W fun e w' => ∃ bi bs, e = .returned (.func (.func 24) #[] #[ptr bi, ptr bs]) ∧ Aside (WalkT W.heap.size w' bi bs L) ∧ Aside (Keeps Nowhere W w')) :
    Calls Tryd.prog 23 #[x0, .func (.func 29) #[] #[ptr qa, ptr qt, ptr qr, ptr qo]] w fun e w' => e = .returned (.int .i64 (L.countP q)) ∧ Aside (P L w') ∧ Aside (Keeps S w w') := by
  obtain ⟨W0, hW0⟩ : ∃ W0, W0 = (w.alloc (.cells #[.func (.func 29) #[] #[ptr qa, ptr qt, ptr qr, ptr qo]] 65)).alloc (.cells #[.int .i64 0] 3) := ⟨_, rfl⟩
  have K0 : Aside (Keeps Nowhere w W0) := ⟨by rw [hW0]; exact ((Keeps.refl _ _).alloc _).alloc _⟩
  have B0 : Aside (Cells W0 w.heap.size 65 [.func (.func 29) #[] #[ptr qa, ptr qt, ptr qr, ptr qo]]) := ⟨by rw [hW0]; exact (Cells.new w _ _).later (S := Nowhere) ((Keeps.refl _ _).alloc _) (fun x => x)⟩
  have N0 : Aside (Cells W0 (w.heap.size + 1) 3 [.int .i64 0]) := ⟨by
    have h := Cells.new (w.alloc (.cells #[.func (.func 29) #[] #[ptr qa, ptr qt, ptr qr, ptr qo]] 65)) 3 [.int .i64 0]
    rw [World.size_alloc] at h
    rw [hW0]; exact h⟩
  have nf : ∀ W : World, (binOp BinOp.eql 65 (.func (.func 29) #[] #[ptr qa, ptr qt, ptr qr, ptr qo]) .nilFunc).run Tryd.prog W = .ok (.bool false) W := fun W => by kernel_rfl
  have AA := Aside.mk (AL W0 K0.it)
  have HL := Aside.mk hL
  have HS := Aside.mk hS
  have HP := Aside.mk hP
  have HC := Aside.mk hcall
  have H0 := Aside.mk h0
  clear AL hL hS hP hcall h0
  refine (callsIn_wide (n := 3)).1 ?_
  refine callsIn_of_wp_marks Tryd.func23 rfl trivial ?_ rfl
  simp only [Tryd.ntmps23, List.size_toArray, List.length_cons, List.length_nil, Nat.reduceAdd, Nat.reduceSub, Array.replicate_succ, Array.replicate_zero, List.push_toArray, List.append_toArray, List.nil_append, List.cons_append]
  gi_wp2_with fail
  rw [← hW0]
  clear hW0
  refine ⟨trivial, ?_⟩
  refine (callsIn_wide.2 AA.it).mono ?_
  rintro e w5 ⟨bi, bs, rfl, W5, k5⟩
  have nn := walk_not_nil w5 bi bs
  gi_wp2_with fail
  obtain ⟨B, hB, hBk⟩ := W5.it.kept 2 (by decide) (by have := HL.it; omega)
  have E0 := Aside.mk (B0.it.later k5.it (fun x => x))
  have E1 := Aside.mk (N0.it.later k5.it (fun x => x))
  have hlt := E1.it.lt
  have h0w : w.heap.size + 1 < W0.heap.size := N0.it.lt
  have KW5 := Aside.mk (K0.it.trans k5.it)
  clear nn
  refine wpIn_rangeFunc_ownF rfl (by decide) (gf := 24) (lb := #[ptr bi, ptr bs]) rfl trivial (enters_of Tryd.func24 (by kernel_rfl) rfl)
    hB kept_t (kept_b (fun k hk => (hBk k hk).2)) (Below.refl _ _) (fun _ => rfl)
    (fun pre W => Keeps (fun k => k = w.heap.size + 1 ∨ S k) w5 W ∧ Cells W (w.heap.size + 1) 3 [.int .i64 (pre.countP q)] ∧ P pre W)
    (fun _ _ _ => False) ?hI (fun _ _ _ _ _ hs _ _ => hs) ⟨Keeps.refl _ _, E1.it, HP.it _ _ _ H0.it (fun k hk => KW5.it.block k (HS.it k hk) (fun x => x))⟩ ?a1 ?assign ?body ?done ?stop
  case hI =>
    intro pre W W' row hs hg hr'
    refine ⟨keeps_grown hs.1 hg (fun r e => (hr' r e).1), ?_, ?_⟩
    · exact hs.2.1.later (grown_keeps hg) (fun e => by have := (hr' _ e).1; omega)
    · refine HP.it _ _ _ hs.2.2 (fun k hk => ?_)
      have hkw := HS.it k hk
      exact hg.block k (by have := hs.1.size; have := KW5.it.size; omega) (fun e => by have := (hr' k e.symm).1; have := KW5.it.size; omega)
  case assign =>
    intro l x W K hK
    gi_wp2
    exact hK
  case stop =>
    intro D c pre W _ _ hx _
    exact hx.elim
  case body =>
    rintro l pre x W ⟨hk, hci, hp⟩ hlen
    have c0 : W.cell? ⟨w.heap.size, 0, none⟩ = some (.func (.func 29) #[] #[ptr qa, ptr qt, ptr qr, ptr qo]) := by rw [(E0.it.later hk (fun e => by rcases e with e | e; omega; have := HS.it _ e; omega)).cell]; rfl
    have CC := Aside.mk (HC.it pre x W hp (KW5.it.any.next hk (fun k e hlt' => by rcases e with e | e; omega; exact e)) hlen)
    have hcl : (pre.countP q : Int) < 9223372036854775807 := by
      have h1 : pre.countP q ≤ pre.length := List.countP_le_length
      have := HL.it
      omega
    have HK := Aside.mk hk
    have HCI := Aside.mk hci
    have HBK := Aside.mk hBk
    have HQ : Aside ((pre ++ [x]).countP q = pre.countP q + if q x then 1 else 0) := ⟨by
      rw [List.countP_append]
      cases hq : q x <;> simp [hq]⟩
    generalize hn : pre.countP q = n at hcl HQ HCI ⊢
    have HLL := Aside.mk (And.intro hlt h0w)
    clear hk hci hBk hB hlen hlt h0w hp hn
    gi_wp2_with fail
    refine ⟨trivial, ?_⟩
    refine (callsIn_wide.2 CC.it).mono ?_
    rintro e W2 ⟨rfl, P2, K2, O2⟩
    have SN : Aside (¬ S (w.heap.size + 1) ∧ ∀ k, B k → ¬ S k) := ⟨fun e => by have := HS.it _ e; omega, fun k hb e => by have h1 := (HBK.it k hb).1; have h2 := HS.it _ e; have h3 := K0.it.size; omega⟩
    have hci2 := HCI.it.later K2.it SN.it.1
    have n0 : W2.cell? ⟨w.heap.size + 1, 0, none⟩ = some (.int .i64 n) := by rw [hci2.cell]; rfl
    have nz := hci2.frozen 0
    have HCI2 := Aside.mk hci2
    have KB2 : Aside (KeptAt B W W2) := ⟨fun k hk => by
      have h1 := (HBK.it k hk).2
      exact K2.it.block k (Nat.lt_of_lt_of_le h1 HK.it.size) (SN.it.2 k hk)⟩
    clear hci2
    cases hq : q x with
    | true =>
      rw [hq] at HQ
      gi_wp2
      have KO := KeepsOthers.setCell W2 ⟨w.heap.size + 1, 0, none⟩ (.int .i64 ((n : Int) + 1))
      refine ⟨⟨Nat.le_trans O2.it.size KO.size, fun k o h h' => KO.same k o (O2.it.same k o h h') h'⟩, fun k hk => (Below.heap_setCell W2 ⟨w.heap.size + 1, 0, none⟩ _ k (fun e => by
          have h1 := (HBK.it k hk).1
          have h2 := HLL.it.2
          have h3 : k = w.heap.size + 1 := e
          omega)).trans (KB2.it k hk), ((HK.it.next K2.it (fun k e _ => .inr e)).setCell _ _ (fun _ => .inl rfl)), ?_, ?_⟩
      · rw [HQ.it]
        exact HCI2.it.setCell 0 (.int .i64 ((n : Int) + 1))
      · exact HP.it _ _ _ P2.it (fun k hk => Below.heap_setCell W2 ⟨w.heap.size + 1, 0, none⟩ _ k (fun e => by
          have h1 := HS.it k hk
          have h3 : k = w.heap.size + 1 := e
          omega))
    | false =>
      rw [hq] at HQ
      gi_wp2
      refine ⟨O2.it, KB2.it, HK.it.next K2.it (fun k e _ => .inr e), ?_, P2.it⟩
      rw [HQ.it]
      exact HCI2.it
  case done =>
    rintro D ys W hD rfl ⟨hk, hci, hp⟩ hK
    have n0 : W.cell? ⟨w.heap.size + 1, 0, none⟩ = some (.int .i64 (ys.countP q)) := by rw [hci.cell]; rfl
    have HK := Aside.mk hk
    have HD := Aside.mk hK
    have HPP := Aside.mk hp
    have N5 := Aside.mk (And.intro hlt (And.intro h0w hD))
    clear hk hK hlt h0w hB hci hD hp
    gi_wp2
    refine ⟨by simp, .inl ⟨_, _, rfl, run_takeDeferred HD.it, ?_⟩⟩
    refine ⟨_, results_tmp rfl _ _ _, rfl, ⟨?_⟩, ⟨?_⟩⟩
    · refine HP.it _ _ _ HPP.it (fun k hk => World.putObj_heap_other (fun e => ?_))
      have h1 := HS.it k hk
      have h2 := N5.it
      have h3 := KW5.it.size
      omega
    have k1 : Keeps (fun k => k = w.heap.size + 1 ∨ S k ∨ k = D) w5 (W.putObj D (.deferred none)) := keeps_grown' (HK.it.mono (fun k e _ => by rcases e with e | e; exact .inl e; exact .inr (.inl e))) (grownBy_putObj' _ D (.deferred none)) (fun r e => by cases e; exact .inr (.inr rfl))
    exact (KW5.it.any).next k1 (fun k e hlt' => by
      have := N5.it
      have h3 := KW5.it.size
      rcases e with e | e | e
      · omega
      · exact e
      · omega)
end Go.Proofs.YtcdgmbaimbmdmaaDoor.Tccnt
