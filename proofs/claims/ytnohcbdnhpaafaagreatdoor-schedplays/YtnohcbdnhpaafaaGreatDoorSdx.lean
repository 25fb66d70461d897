import Derived.Test.YtnohcbdnhpaafaaGreatDoorScx
/-
  package sched: ask, Next with a function (dat)
-/
namespace Go.Proofs.YtnohcbdnhpaafaaGreatDoor.Sdat
open Go.RowKit

variable {A : Nat → Addr} {w w' w0 W w2 : World} {own own' : Nat → Nat} {I : Nat → Prop} {s p r m b6 b4 cb ob B : Nat} {L : List Tk} {l ks t : List Nat} {D : List Nat → (Nat → Nat) → World → Prop} {okf mf : Nat → Nat → Bool} {fi : Nat → Nat}

def In8 : Nat → Prop := fun k => 1 ≤ k ∧ k ≤ 8
/-- what is handed in answers so -/
structure DtOk (cb ob : Nat) (D : List Nat → (Nat → Nat) → World → Prop) (okf mf : Nat → Nat → Bool) (fi : Nat → Nat) (B : Nat) : Prop where
  call : ∀ (l : List Nat) (id : Nat) (own : Nat → Nat) (W : World), id ≤ 4294967295 → l.length < B → D l own W → Calls Tryz.prog 79 #[.int .u32 id, ptr cb, ptr ob] W fun e W' => ∃ own' g, e = .returned (.tuple #[fdv id (fi l.length) (.slice (some ⟨g, 0, none⟩) 2 2), .bool (okf id l.length), .bool (mf id l.length)]) ∧ Aside (D (l ++ [id]) own' W') ∧ Aside (CellsO own' 9 W' g 5 (fby id (fi l.length))) ∧ Aside (Sn (fun k => k = 7 ∨ k = 8) own W own' W')
  keep : ∀ (I : Nat → Prop) (l : List Nat) (own : Nat → Nat) (W : World) (own' : Nat → Nat) (W' : World), D l own W → Sn I own W own' W' → ¬ I 0 → ¬ I 7 → ¬ I 8 → D l own' W'

/-- Next's world: the scheduler, the copy of its parts, and what data was asked -/
structure Nw (A : Nat → Addr) (w0 : World) (D : List Nat → (Nat → Nat) → World → Prop) (own : Nat → Nat) (w : World) (s p r : Nat) (L : List Tk) (m : Nat) (ks : List Nat) (b6 : Nat) (l : List Nat) : Prop where
  sc : ScI A w0 own w s p r L m ks
  b6 : CellsO own 9 w b6 58 [ptr p, ptr r]
  d : D l own w
theorem Nw.sn (hd : DtOk cb ob D okf mf fi B) (h : Nw A w0 D own w s p r L m ks b6 l) (q : Sn I own w own' w') (h0 : ¬ I 0) (hi : ∀ k, In6 k → ¬ I k) (h7 : ¬ I 7) (h8 : ¬ I 8) (h9 : ¬ I 9) : Nw A w0 D own' w' s p r L m ks b6 l :=
  ⟨h.sc.sn q h0 hi, h.b6.sn q h9, hd.keep I l own w own' w' h.d q h0 h7 h8⟩
theorem Nw.idle (hd : DtOk cb ob D okf mf fi B) (h : Nw A w0 D own w s p r L m ks b6 l) (q : Sn (fun _ => False) own w own' w') : Nw A w0 D own' w' s p r L m ks b6 l :=
  h.sn hd q (fun x => x) (fun _ _ x => x) (fun x => x) (fun x => x) (fun x => x)

def aft (b : Bool) (k : Nat) (t : List Nat) : List Nat := if b then t ++ [k] else t
theorem aft_true (k : Nat) (t : List Nat) : aft (true && true) k t = t ++ [k] := rfl
theorem aft_ff (b : Bool) (k : Nat) (t : List Nat) : aft (false && b) k t = t := rfl
theorem aft_tf (k : Nat) (t : List Nat) : aft (true && false) k t = t := rfl
theorem rem_last {k : Nat} {t : List Nat} (h : k ∉ t) : remL (t ++ [k]) k = t := by
  unfold remL
  rw [List.erase_append_right _ h]
  simp

theorem ask_fin (hd : DtOk cb ob D okf mf fi B) {w5 : World} {own5 : Nat → Nat} {g : Nat} {x0 x1 x2 x3 x4 x5 : Value} {bs : List Value} (hb : ¬ b4 < w.heap.size) (q : Sn In8 own w own5 w5) (h5 : Nw A w0 D own5 w5 s p r L m ks b6 l) (c4 : CellsO own5 9 w5 b4 47 zero6) (f5 : CellsO own5 9 w5 g 5 bs) :
    Nw A w0 D own5 (set6 w5 b4 x0 x1 x2 x3 x4 x5) s p r L m ks b6 l ∧ CellsO own5 9 (set6 w5 b4 x0 x1 x2 x3 x4 x5) g 5 bs ∧ Sn In8 own w own5 (set6 w5 b4 x0 x1 x2 x3 x4 x5) := by
  have q5 : Sn (fun k => k = 9) own5 w5 own5 (set6 w5 b4 x0 x1 x2 x3 x4 x5) := ⟨fun _ _ => rfl, keeps6 (Keeps.refl _ _) (fun _ => c4.2)⟩
  refine ⟨⟨h5.sc.sn q5 (by omega) (fun k hk => by have := hk.2; omega), ⟨other6 h5.b6.1 (cells_ne h5.b6.1 c4.1 (by decide)), h5.b6.2⟩, hd.keep _ l own5 w5 own5 _ h5.d q5 (by omega) (by omega) (by omega)⟩, ⟨other6 f5.1 (cells_ne f5.1 c4.1 (by decide)), f5.2⟩, ⟨q.agree, keeps6 q.keeps (fun h => absurd h hb)⟩⟩

set_option maxHeartbeats 2000000 in
theorem ask_at (hd : DtOk cb ob D okf mf fi B) {k : Nat} (h : Nw A w0 D own w s p r L m (k :: t) b6 l) (hl : l.length < B) :
    Calls Tryz.prog 39 #[ptr b6, .func (.func 79) #[] #[ptr cb, ptr ob]] w fun e w' => ∃ own' g, e = .returned (.tuple #[fdv k (fi l.length) (.slice (some ⟨g, 0, none⟩) 2 2), .bool (okf k l.length)]) ∧ Aside (Nw A w0 D own' w' s p r L m (aft (okf k l.length && mf k l.length) k t) b6 (l ++ [k])) ∧ Aside (CellsO own' 9 w' g 5 (fby k (fi l.length))) ∧ Aside (Sn In8 own w own' w') := by
  obtain ⟨b4, hb4⟩ : ∃ b4, b4 = w.heap.size := ⟨_, rfl⟩
  obtain ⟨w1, hw1⟩ : ∃ w1, w1 = w.alloc (.cells #[.int .u8 0, .int .u8 0, .int .u16 0, .int .u32 0, .int .u32 0, .slice none 0 0] 47) := ⟨_, rfl⟩
  obtain ⟨own1, ho1⟩ : ∃ own1, own1 = give own w.heap.size 9 := ⟨_, rfl⟩
  have q1 : Sn (fun _ => False) own w own1 w1 := by rw [ho1, hw1]; exact Sn.quiet ((Keeps.refl _ _).alloc _) 9
  have h1 := h.idle hd q1
  have c4 : CellsO own1 9 w1 b4 47 zero6 := by rw [ho1, hw1, hb4]; exact ⟨Cells.new w _ _, give_new (Nat.le_refl _)⟩
  have x1 : w1.cell? ⟨b6, 1, none⟩ = some (ptr r) := h1.b6.1.cell 1
  have nd := (rb_nodup h1.sc.rb).1
  have hkt : k ∉ t := (List.nodup_cons.1 nd).1
  have hk : k ≤ 4294967295 := (rb_nodup h1.sc.rb).2 k List.mem_cons_self
  have NX : Aside (Calls Tryz.prog 68 #[ptr r] w1 fun e w' => e = .returned (.tuple #[.int .u32 k, .bool true]) ∧ Aside (Keeps (fun c => own1 c = 5) w1 w' ∧ Rbuint32.RbO (give own1 w1.heap.size 5) 5 w' r (t ++ [k]))) := ⟨Rbuint32.nextO h1.sc.rb⟩
  have CL := Aside.mk (fun own2 w2 => hd.call l k own2 w2 hk hl)
  obtain ⟨n, hn⟩ : ∃ n, n = l.length := ⟨_, rfl⟩
  obtain ⟨uo, huo⟩ : ∃ u, u = okf k l.length := ⟨_, rfl⟩
  obtain ⟨um, hum⟩ : ∃ u, u = mf k l.length := ⟨_, rfl⟩
  obtain ⟨nf, hnf⟩ : ∃ u, u = fi l.length := ⟨_, rfl⟩
  rw [← huo, ← hum, ← hnf] at CL ⊢
  obtain ⟨ks', hks⟩ : ∃ ks', ks' = aft (uo && um) k t := ⟨_, rfl⟩
  rw [← hks]
  have HB4 : Aside (¬ b4 < w.heap.size) := ⟨by omega⟩
  have H1 := Aside.mk (And.intro h1 (And.intro c4 q1))
  have HK := Aside.mk (And.intro hkt hk)
  have HS := Aside.mk hks
  have HD := Aside.mk hd
  clear h h1 c4 q1 ho1 hd hl huo hum hnf hn nd hkt hk hks
  go_enter Tryz.func39, Tryz.ntmps39
  go_upto_region 1 with fail
  rw [← hb4, ← hw1]
  clear hb4 hw1
  go_upto_region 4 with (go_at_call 68; refine NX.it.mono ?_; rintro e w2 ⟨rfl, r2⟩)
  obtain ⟨own2, ho2⟩ : ∃ own2, own2 = give own1 w1.heap.size 5 := ⟨_, rfl⟩
  have q2 : Sn (fun k => k = 5) own1 w1 own2 w2 := by rw [ho2]; exact Sn.by r2.it.1 5
  have h2 : Nw A w0 D own2 w2 s p r L m (t ++ [k]) b6 l := ⟨by rw [ho2]; exact H1.it.1.sc.robin r2.it, H1.it.1.b6.sn q2 (by omega), HD.it.keep _ l own1 w1 own2 w2 H1.it.1.d q2 (by omega) (by omega) (by omega)⟩
  have c42 := H1.it.2.1.sn q2 (by omega)
  have CL2 := Aside.mk (CL.it own2 w2 h2.d)
  have H2 := Aside.mk (And.intro h2 (And.intro c42 ((H1.it.2.2.mono (J := In8) (fun _ x => x.elim)).trans (q2.mono (fun k x => ⟨by omega, by omega⟩)))))
  clear h2 c42 q2 x1 NX CL ho2
  go_upto_region 5 with (go_at_call 79; refine CL2.it.mono ?_; rintro e w3 ⟨own3, g, rfl, d3, f3, q3⟩)
  obtain ⟨b8, hb8⟩ : ∃ b, b = w3.heap.size := ⟨_, rfl⟩
  obtain ⟨w4, hw4⟩ : ∃ w4, w4 = w3.alloc (.cells #[.int .u8 0, .int .u8 0, .int .u16 (flg nf), .int .u32 k, .int .u32 2, .slice (some ⟨g, 0, none⟩) 2 2] 47) := ⟨_, rfl⟩
  obtain ⟨own4, ho4⟩ : ∃ own4, own4 = give own3 w3.heap.size 9 := ⟨_, rfl⟩
  have h3 : Nw A w0 D own3 w3 s p r L m (t ++ [k]) b6 (l ++ [k]) := ⟨H2.it.1.sc.sn q3.it (by omega) (fun k hk => by have := hk.2; omega), H2.it.1.b6.sn q3.it (by omega), d3.it⟩
  have q4 : Sn (fun _ => False) own3 w3 own4 w4 := by rw [ho4, hw4]; exact Sn.quiet ((Keeps.refl _ _).alloc _) 9
  have h4 := h3.idle HD.it q4
  have c44 := (H2.it.2.1.sn q3.it (by omega)).sn q4 (fun x => x)
  have c8 : CellsO own4 9 w4 b8 47 [.int .u8 0, .int .u8 0, .int .u16 (flg nf), .int .u32 k, .int .u32 2, .slice (some ⟨g, 0, none⟩) 2 2] := by rw [ho4, hw4, hb8]; exact ⟨Cells.new w3 _ _, give_new (Nat.le_refl _)⟩
  have f4 := f3.it.sn q4 (fun x => x)
  have q04 : Sn In8 own w own4 w4 := (H2.it.2.2.trans (q3.it.mono (fun k x => ⟨by omega, by omega⟩))).trans (q4.mono (fun _ x => x.elim))
  have x1 : w4.cell? ⟨b6, 1, none⟩ = some (ptr r) := h4.b6.1.cell 1
  have RM := Aside.mk (Rbuint32.removeO (k := k) h4.sc.rb HK.it.2)
  have H4 := Aside.mk (And.intro h4 (And.intro c44 (And.intro c8 (And.intro f4 q04))))
  rw [← hb8, ← hw4]
  clear h3 q4 h4 c44 c8 f4 q04 ho4 hw4 hb8 H2 d3 f3 q3 CL2
  -- the stream keeps its turn, or not
  have FIN : Aside (∀ (w5 : World) (own5 : Nat → Nat), Nw A w0 D own5 w5 s p r L m ks' b6 (l ++ [k]) → CellsO own5 9 w5 b4 47 zero6 → CellsO own5 9 w5 g 5 (fby k nf) → Sn In8 own w own5 w5 → ∃ own' g', (Ending.returned (.tuple #[fdv k nf (.slice (some ⟨g, 0, none⟩) 2 2), .bool uo]) = .returned (.tuple #[fdv k nf (.slice (some ⟨g', 0, none⟩) 2 2), .bool uo])) ∧ Aside (Nw A w0 D own' (set6 w5 b4 (.int .u8 0) (.int .u8 0) (.int .u16 (flg nf)) (.int .u32 k) (.int .u32 2) (.slice (some ⟨g, 0, none⟩) 2 2)) s p r L m ks' b6 (l ++ [k])) ∧ Aside (CellsO own' 9 (set6 w5 b4 (.int .u8 0) (.int .u8 0) (.int .u16 (flg nf)) (.int .u32 k) (.int .u32 2) (.slice (some ⟨g, 0, none⟩) 2 2)) g' 5 (fby k nf)) ∧ Aside (Sn In8 own w own' (set6 w5 b4 (.int .u8 0) (.int .u8 0) (.int .u16 (flg nf)) (.int .u32 k) (.int .u32 2) (.slice (some ⟨g, 0, none⟩) 2 2)))) := ⟨fun w5 own5 a b c d => by
    obtain ⟨e1, e2, e3⟩ := ask_fin HD.it HB4.it d a b c
    exact ⟨own5, g, rfl, ⟨e1⟩, ⟨e2⟩, ⟨e3⟩⟩⟩
  cases uo <;> cases um
  case true.true =>
    have c8 := H4.it.2.2.1.1
    obtain ⟨⟨s0, s1, s2, s3, s4, s5⟩, f5⟩ := six_cells H4.it.2.1.1
    have z0 : w4.cell? ⟨b8, 0, none⟩ = some (.int .u8 0) := c8.cell 0
    have z1 : w4.cell? ⟨b8, 1, none⟩ = some (.int .u8 0) := c8.cell 1
    have z2 : w4.cell? ⟨b8, 2, none⟩ = some (.int .u16 (flg nf)) := c8.cell 2
    have z3 : w4.cell? ⟨b8, 3, none⟩ = some (.int .u32 k) := c8.cell 3
    have z4 : w4.cell? ⟨b8, 4, none⟩ = some (.int .u32 2) := c8.cell 4
    have z5 : w4.cell? ⟨b8, 5, none⟩ = some (.slice (some ⟨g, 0, none⟩) 2 2) := c8.cell 5
    clear c8 x1
    go_wp2_with fail
    refine bodyPost_ret (v := .tuple #[fdv k nf (.slice (some ⟨g, 0, none⟩) 2 2), .bool true]) (by simp [results, Tryz.results39, go_sem, s0, s1, s2, s3, s4, s5]) rfl ?_
    exact FIN.it w4 own4 (by rw [HS.it, aft_true]; exact H4.it.1) H4.it.2.1 H4.it.2.2.2.1 H4.it.2.2.2.2
  all_goals
    go_upto_region 7 with (go_at_call 50; refine RM.it.mono ?_; rintro e w5 ⟨rfl, r5⟩)
    obtain ⟨own5, ho5⟩ : ∃ own5, own5 = give own4 w4.heap.size 5 := ⟨_, rfl⟩
    have q5 : Sn (fun k => k = 5) own4 w4 own5 w5 := by rw [ho5]; exact Sn.by r5.it.1 5
    have rr : ScI A w0 own5 w5 s p r L m t := by
      have := H4.it.1.sc.robin r5.it
      rw [rem_last HK.it.1] at this
      rw [ho5]; exact this
    have h5 : Nw A w0 D own5 w5 s p r L m t b6 (l ++ [k]) := ⟨rr, H4.it.1.b6.sn q5 (by omega), HD.it.keep _ _ own4 w4 own5 w5 H4.it.1.d q5 (by omega) (by omega) (by omega)⟩
    have c45 := H4.it.2.1.sn q5 (by omega)
    have c8 := (H4.it.2.2.1.sn q5 (by omega)).1
    have g5 := H4.it.2.2.2.1.sn q5 (by omega)
    have q05 := H4.it.2.2.2.2.trans (q5.mono (J := In8) (fun k x => ⟨by omega, by omega⟩))
    obtain ⟨⟨s0, s1, s2, s3, s4, s5⟩, f5⟩ := six_cells c45.1
    have z0 : w5.cell? ⟨b8, 0, none⟩ = some (.int .u8 0) := c8.cell 0
    have z1 : w5.cell? ⟨b8, 1, none⟩ = some (.int .u8 0) := c8.cell 1
    have z2 : w5.cell? ⟨b8, 2, none⟩ = some (.int .u16 (flg nf)) := c8.cell 2
    have z3 : w5.cell? ⟨b8, 3, none⟩ = some (.int .u32 k) := c8.cell 3
    have z4 : w5.cell? ⟨b8, 4, none⟩ = some (.int .u32 2) := c8.cell 4
    have z5 : w5.cell? ⟨b8, 5, none⟩ = some (.slice (some ⟨g, 0, none⟩) 2 2) := c8.cell 5
    have G := Aside.mk (FIN.it w5 own5 (by first | (rw [HS.it, aft_ff]; exact h5) | (rw [HS.it, aft_tf]; exact h5)) c45 g5 q05)
    clear c8 x1 q5 rr h5 c45 g5 q05 ho5
    go_wp2_with fail
    refine bodyPost_ret (v := .tuple #[fdv k nf (.slice (some ⟨g, 0, none⟩) 2 2), .bool _]) (by simp [results, Tryz.results39, go_sem, s0, s1, s2, s3, s4, s5]; rfl) rfl ?_
    exact G.it
end Go.Proofs.YtnohcbdnhpaafaaGreatDoor.Sdat

/-
  package sched: Next with a function, no ticket waiting (dat)
-/
namespace Go.Proofs.YtnohcbdnhpaafaaGreatDoor.Sdat
open Go.RowKit

variable {A : Nat → Addr} {w w' w0 W w2 : World} {own own' : Nat → Nat} {I : Nat → Prop} {s p r m b6 b4 cb ob B : Nat} {L : List Tk} {l ks t : List Nat} {D : List Nat → (Nat → Nat) → World → Prop} {okf mf : Nat → Nat → Bool} {fi : Nat → Nat}

theorem nextK (h : Ln A w0 own w p [] m) : Calls Tryz.prog 36 #[ptr p] w fun e w' => e = .returned (.tuple #[tkv 0 0 0, .bool false]) ∧ Aside (Keeps Nowhere w w') := by
  obtain ⟨Z, h1, h2⟩ := h.l
  obtain rfl : Z = [] := by simpa using h2
  refine (next_empty h1).mono ?_
  rintro e w' ⟨rfl, k⟩
  exact ⟨rfl, ⟨k⟩⟩
theorem data_some (w : World) (fn : Fn) (b c : Array Value) : (binOp BinOp.eql 51 (.func fn b c) .nilFunc).run Tryz.prog w = .ok (.bool false) w := by
  kernel_rfl
theorem drop_at {j k : Nat} (h : ks[j]? = some k) : ks.drop j = k :: ks.drop (j + 1) := by
  obtain ⟨hj, rfl⟩ := List.getElem?_eq_some_iff.1 h
  exact List.drop_eq_getElem_cons hj
theorem take_at {j k : Nat} (h : ks[j]? = some k) : ks.take j ++ [k] = ks.take (j + 1) := by
  rw [List.take_add_one, h]
  rfl

theorem fin0 (hd : DtOk cb ob D okf mf fi B) {w5 : World} {own5 : Nat → Nat} {x0 x1 x2 x3 x4 x5 : Value} (hb : ¬ b4 < w.heap.size) (q : Sn In8 own w own5 w5) (h5 : Nw A w0 D own5 w5 s p r L m ks b6 l) (c4 : CellsO own5 9 w5 b4 47 zero6) :
    Nw A w0 D own5 (set6 w5 b4 x0 x1 x2 x3 x4 x5) s p r L m ks b6 l ∧ Sn In8 own w own5 (set6 w5 b4 x0 x1 x2 x3 x4 x5) := by
  have q5 : Sn (fun k => k = 9) own5 w5 own5 (set6 w5 b4 x0 x1 x2 x3 x4 x5) := ⟨fun _ _ => rfl, keeps6 (Keeps.refl _ _) (fun _ => c4.2)⟩
  exact ⟨⟨h5.sc.sn q5 (by omega) (fun k hk => by have := hk.2; omega), ⟨other6 h5.b6.1 (cells_ne h5.b6.1 c4.1 (by decide)), h5.b6.2⟩, hd.keep _ l own5 w5 own5 _ h5.d q5 (by omega) (by omega) (by omega)⟩, ⟨q.agree, keeps6 q.keeps (fun h => absurd h hb)⟩⟩
/-- the world of Next's loop -/
structure Lw (A : Nat → Addr) (w0 : World) (D : List Nat → (Nat → Nat) → World → Prop) (own0 : Nat → Nat) (w : World) (s p r m : Nat) (ks : List Nat) (b6 b4 q : Nat) (own : Nat → Nat) (W : World) : Prop where
  n : Nw A w0 D own W s p r [] m (ks.drop q) b6 (ks.take q)
  c : CellsO own 9 W b4 47 zero6
  q : Sn In8 own0 w own W

set_option maxHeartbeats 2000000 in
theorem next_data (hd : DtOk cb ob D okf mf fi B) (h : Sc A w0 own w s [] m ks) (d : D [] own w) (hB : ks.length ≤ B) (h63 : ks.length ≤ 9223372036854775807) (j : Nat) (hj : j ≤ ks.length) (hno : ∀ i k, i < j → ks[i]? = some k → okf k i = false) (hyes : ∀ k, ks[j]? = some k → okf k j = true) :
    Calls Tryz.prog 9 #[ptr s, .func (.func 79) #[] #[ptr cb, ptr ob]] w fun e w' => ∃ own', Aside (Sn In8 own w own' w') ∧
      ((j = ks.length ∧ e = .returned (.tuple #[.agg zero6.toArray, .bool false]) ∧ Aside (Sc A w0 own' w' s [] m [] ∧ D ks own' w')) ∨
       (∃ k g, ks[j]? = some k ∧ e = .returned (.tuple #[fdv k (fi j) (.slice (some ⟨g, 0, none⟩) 2 2), .bool true]) ∧ Aside (Sc A w0 own' w' s [] m (aft (mf k j) k (ks.drop (j + 1))) ∧ D (ks.take (j + 1)) own' w' ∧ CellsO own' 9 w' g 5 (fby k (fi j))))) := by
  obtain ⟨p, r, h⟩ := h
  obtain ⟨b4, hb4⟩ : ∃ b4, b4 = w.heap.size := ⟨_, rfl⟩
  obtain ⟨w1, hw1⟩ : ∃ w1, w1 = w.alloc (.cells #[.int .u8 0, .int .u8 0, .int .u16 0, .int .u32 0, .int .u32 0, .slice none 0 0] 47) := ⟨_, rfl⟩
  have k1 : Keeps Nowhere w w1 := by rw [hw1]; exact (Keeps.refl _ _).alloc _
  have c1 : Cells w1 b4 47 zero6 := by rw [hw1, hb4]; exact Cells.new w _ _
  have P := Aside.mk (parts_at (h.quiet k1))
  have LN := Aside.mk (fun W (k : Keeps Nowhere w W) => nextK (h.quiet k).ln)
  have HB4 : Aside (¬ b4 < w.heap.size) := ⟨by omega⟩
  have H := Aside.mk (And.intro h (And.intro d (And.intro c1 k1)))
  have HD := Aside.mk hd
  have HJ := Aside.mk (And.intro hj (And.intro hno (And.intro hyes hB)))
  have F0 := sc_f0 (some ⟨p, 0, none⟩) (some ⟨r, 0, none⟩)
  have nn := data_some
  obtain ⟨n, hn⟩ : ∃ n, n = ks.length := ⟨_, rfl⟩
  have HN := Aside.mk hn
  have h63' : (n : Int) ≤ 9223372036854775807 := by omega
  rw [← hn] at hj ⊢
  clear h d c1 k1 hd hno hyes hB hn h63
  go_enter Tryz.func9, Tryz.ntmps9
  go_upto_region 1 with fail
  rw [← hb4, ← hw1]
  clear hb4 hw1
  go_upto_region 2 with (go_at_call 34; refine P.it.mono ?_; rintro e w2 ⟨rfl, k2⟩)
  obtain ⟨b6, hb6⟩ : ∃ b6, b6 = w2.heap.size := ⟨_, rfl⟩
  obtain ⟨w3, hw3⟩ : ∃ w3, w3 = w2.alloc (.cells #[ptr p, ptr r] 58) := ⟨_, rfl⟩
  have k3 : Keeps Nowhere w1 w3 := by rw [hw3]; exact k2.it.alloc _
  have c3 : Cells w3 b6 58 [ptr p, ptr r] := by rw [hw3, hb6]; exact Cells.new w2 _ _
  have hb6' : w.heap.size ≤ b6 := by rw [hb6]; exact Nat.le_trans H.it.2.2.2.size k2.it.size
  have x0 : w3.cell? ⟨b6, 0, none⟩ = some (ptr p) := c3.cell 0
  have L3 := Aside.mk (LN.it w3 (H.it.2.2.2.trans k3))
  have K3 := Aside.mk (And.intro k3 (And.intro c3 hb6'))
  rw [← hb6, ← hw3]
  clear hb6 hw3 k3 c3 hb6' k2 P LN
  go_upto_region 3 with (go_at_call 36; refine L3.it.mono ?_; rintro e w4 ⟨rfl, k4⟩)
  obtain ⟨w5, hw5⟩ : ∃ w5, w5 = w4.alloc (.cells #[.int .i64 0, .int .u32 0, .int .u32 0] 35) := ⟨_, rfl⟩
  have k5 : Keeps Nowhere w3 w5 := by rw [hw5]; exact k4.it.alloc _
  have q5 : Sn (fun _ => False) own w (give own w.heap.size 9) w5 := Sn.quiet (H.it.2.2.2.trans (K3.it.1.trans k5)) 9
  have LW : Aside (Lw A w0 D own w s p r m ks b6 b4 0 (give own w.heap.size 9) w5) := ⟨⟨⟨H.it.1.sn q5 (fun x => x) (fun _ _ x => x), ⟨K3.it.2.1.later k5 (fun x => x), give_new K3.it.2.2⟩, HD.it.keep _ _ own w _ w5 H.it.2.1 q5 (fun x => x) (fun x => x) (fun x => x)⟩, ⟨(H.it.2.2.1.later K3.it.1 (fun x => x)).later k5 (fun x => x), give_new (by have := HB4.it; omega)⟩, q5.mono (fun _ x => x.elim)⟩⟩
  have LE : Aside (Calls Tryz.prog 38 #[ptr r] w5 fun e w' => e = .returned (.int .i64 n) ∧ w5 = w') := ⟨by rw [HN.it]; exact (Rbuint32.lenO LW.it.n.sc.rb).mono (fun e w' x => ⟨x.1, x.2.symm⟩)⟩
  have x1 : w5.cell? ⟨b6, 1, none⟩ = some (ptr r) := LW.it.n.b6.1.cell 1
  rw [← hw5]
  clear hw5 k5 q5 k4 L3 x0 K3 H
  go_wp2_with (go_at_call 38; refine LE.it.mono ?_; rintro e w6 ⟨rfl, rfl⟩)
  clear LE x1 F0
  go_loopw [34] (fun i wr => ∃ (q : Nat) (own' : Nat → Nat), i = .int .i64 q ∧ q ≤ j ∧ Aside (Lw A w0 D own w s p r m ks b6 b4 q own' wr)) (fun i _ => n - (intOf i).toNat)
  case atStart => exact ⟨0, _, rfl, Nat.zero_le _, LW⟩
  case round =>
    obtain ⟨q, own', rfl, hq, LQ⟩ := hrel
    clear LW
    by_cases hqn : q < n
    · have hqn' : (q : Int) < n := by omega
      obtain ⟨k, hk⟩ : ∃ k, ks[q]? = some k := ⟨_, List.getElem?_eq_getElem (by rw [← HN.it]; exact hqn)⟩
      have eq : (ks.take q).length = q := by rw [List.length_take]; have := HN.it; omega
      have n1 : Nw A w0 D own' wr s p r [] m (k :: ks.drop (q + 1)) b6 (ks.take q) := by have := LQ.it.n; rw [drop_at hk] at this; exact this
      have AK := ask_at HD.it n1 (by rw [eq]; have := HJ.it.2.2.2; have := HN.it; omega)
      rw [eq, take_at hk] at AK
      have AK := Aside.mk AK
      have HK := Aside.mk hk
      have hq63 : (q : Int) ≤ 9223372036854775806 := by omega
      clear n1 eq hk
      by_cases hqj : q < j
      · have ek := HJ.it.2.1 q k hqj HK.it
        rw [ek] at AK
        clear ek
        go_upto_region 11 with (go_at_call 39; refine AK.it.mono ?_; rintro e wa ⟨owna, g, rfl, na, fa, qa⟩)
        have ka : Keeps Nowhere wa (wa.alloc (.cells #[.int .u8 0, .int .u8 0, .int .u16 (flg (fi q)), .int .u32 k, .int .u32 2, .slice (some ⟨g, 0, none⟩) 2 2] 47)) := (Keeps.refl _ _).alloc _
        have LA : Aside (Lw A w0 D own w s p r m ks b6 b4 (q + 1) owna (wa.alloc (.cells #[.int .u8 0, .int .u8 0, .int .u16 (flg (fi q)), .int .u32 k, .int .u32 2, .slice (some ⟨g, 0, none⟩) 2 2] 47))) := ⟨⟨na.it.idle HD.it (Sn.same ka), ((LQ.it.c.sn qa.it (fun x => by have := x.2; omega)).quiet ka), (LQ.it.q.trans qa.it).trans (Sn.same ka)⟩⟩
        clear ka na fa qa AK
        go_wp2
        go_roundw
        case rel => exact ⟨q + 1, owna, by go_num, by omega, LA⟩
        case measure => simp [intOf]; omega
      · obtain rfl : q = j := by omega
        have ek := HJ.it.2.2.1 k HK.it
        rw [ek] at AK
        clear ek
        go_upto_region 11 with (go_at_call 39; refine AK.it.mono ?_; rintro e wa ⟨owna, g, rfl, na, fa, qa⟩)
        obtain ⟨b8, hb8⟩ : ∃ b, b = wa.heap.size := ⟨_, rfl⟩
        obtain ⟨nf, hnf⟩ : ∃ u, u = fi q := ⟨_, rfl⟩
        obtain ⟨w7, hw7⟩ : ∃ w7, w7 = wa.alloc (.cells #[.int .u8 0, .int .u8 0, .int .u16 (flg (fi q)), .int .u32 k, .int .u32 2, .slice (some ⟨g, 0, none⟩) 2 2] 47) := ⟨_, rfl⟩
        have k7 : Keeps Nowhere wa w7 := by rw [hw7]; exact (Keeps.refl _ _).alloc _
        have c8 : Cells w7 b8 47 [.int .u8 0, .int .u8 0, .int .u16 (flg nf), .int .u32 k, .int .u32 2, .slice (some ⟨g, 0, none⟩) 2 2] := by rw [hw7, hb8, hnf]; exact Cells.new wa _ _
        have c4 := (LQ.it.c.sn qa.it (fun x => by have := x.2; omega)).quiet k7
        have n7 := na.it.idle HD.it (Sn.same k7)
        have q7 := (LQ.it.q.trans qa.it).trans (Sn.same k7)
        have f7 := fa.it.quiet k7
        obtain ⟨⟨s0, s1, s2, s3, s4, s5⟩, f5⟩ := six_cells c4.1
        have z0 : w7.cell? ⟨b8, 0, none⟩ = some (.int .u8 0) := c8.cell 0
        have z1 : w7.cell? ⟨b8, 1, none⟩ = some (.int .u8 0) := c8.cell 1
        have z2 : w7.cell? ⟨b8, 2, none⟩ = some (.int .u16 (flg nf)) := c8.cell 2
        have z3 : w7.cell? ⟨b8, 3, none⟩ = some (.int .u32 k) := c8.cell 3
        have z4 : w7.cell? ⟨b8, 4, none⟩ = some (.int .u32 2) := c8.cell 4
        have z5 : w7.cell? ⟨b8, 5, none⟩ = some (.slice (some ⟨g, 0, none⟩) 2 2) := c8.cell 5
        have G := Aside.mk (ask_fin (x0 := .int .u8 0) (x1 := .int .u8 0) (x2 := .int .u16 (flg nf)) (x3 := .int .u32 k) (x4 := .int .u32 2) (x5 := .slice (some ⟨g, 0, none⟩) 2 2) HD.it HB4.it q7 n7 c4 f7)
        have HF := Aside.mk hnf
        rw [← hb8, ← hw7]
        clear hb8 hw7 k7 c8 c4 n7 q7 f7 na fa qa AK hnf
        go_wp2_with fail
        refine bodyPost_ret (v := .tuple #[fdv k nf (.slice (some ⟨g, 0, none⟩) 2 2), .bool true]) (by simp [results, Tryz.results9, go_sem, s0, s1, s2, s3, s4, s5]) rfl ?_
        obtain ⟨e1, e2, e3⟩ := G.it
        rw [HF.it] at *
        exact ⟨owna, ⟨e3⟩, .inr ⟨k, g, HK.it, rfl, ⟨⟨p, r, e1.sc⟩, e1.d, e2⟩⟩⟩
    · obtain rfl : q = j := by omega
      obtain rfl : q = n := by omega
      have c4 := LQ.it.c
      obtain ⟨⟨s0, s1, s2, s3, s4, s5⟩, f5⟩ := six_cells c4.1
      have G := Aside.mk (fin0 (x0 := .int .u8 0) (x1 := .int .u8 0) (x2 := .int .u16 0) (x3 := .int .u32 0) (x4 := .int .u32 0) (x5 := .slice none 0 0) HD.it HB4.it LQ.it.q LQ.it.n c4)
      clear c4
      go_wp2_with fail
      refine bodyPost_ret (v := .tuple #[.agg zero6.toArray, .bool false]) (by simp [results, Tryz.results9, go_sem, s0, s1, s2, s3, s4, s5]) rfl ?_
      obtain ⟨e1, e3⟩ := G.it
      rw [HN.it, List.drop_length, List.take_length] at e1
      exact ⟨own', ⟨e3⟩, .inl ⟨rfl, ⟨⟨p, r, e1.sc⟩, e1.d⟩⟩⟩
end Go.Proofs.YtnohcbdnhpaafaaGreatDoor.Sdat

/-
  lists of numbers of 32 bits, of tickets, that are alike
-/
namespace Go.Proofs.YtnohcbdnhpaafaaGreatDoor
open Go.RowKit

variable {w w' W : World}

/-- a list of numbers that can be read -/
def RdU (w : World) (v : Value) (l : List Nat) : Prop :=
  ∃ a c, v = .slice a l.length c ∧ l.length ≤ c ∧ c ≤ maxLen ∧ ∀ (j k : Nat), l[j]? = some k → ∃ g o, a = some ⟨g, o, none⟩ ∧ w.cell? ⟨g, o + j, none⟩ = some (.int .u32 k)
theorem RdU.later {v : Value} {l : List Nat} (h : RdU w v l) (hb : Below w.heap.size w w') : RdU w' v l := by
  obtain ⟨a, c, e, h1, h2, h3⟩ := h
  refine ⟨a, c, e, h1, h2, fun j k hj => ?_⟩
  obtain ⟨g, o, ha, hc⟩ := h3 j k hj
  exact ⟨g, o, ha, by rw [hb.cell (World.block_lt_of_cell? w _ hc)]; exact hc⟩
theorem RdU.quiet {v : Value} {l : List Nat} (h : RdU w v l) (k : Keeps Nowhere w w') : RdU w' v l := h.later k.bel
theorem owns_rdU {base : Nat} {e : TypeId} {v : Value} {n : Nat} {l : List Nat} (h : w.ownsRow base e 1 v n (uv l)) : RdU w v l := by
  have hl : l.length = n := by have := h.1; rw [uv_len] at this; omega
  subst hl
  rcases h.2 with ⟨rfl, h0⟩ | ⟨g, cap, cur, rfl, hb, hc, hn, hm, hs, ht⟩
  · have : l = [] := List.eq_nil_of_length_eq_zero h0
    subst this
    exact ⟨none, 0, rfl, Nat.le_refl _, Nat.zero_le _, fun j k hj => by simp at hj⟩
  · refine ⟨_, cap, rfl, hn, hm, fun j k hj => ⟨g, 0, rfl, ?_⟩⟩
    have hjl : j < l.length := (List.getElem?_eq_some_iff.1 hj).1
    have := World.ownsRow.cellAt h j (by omega)
    rw [Nat.zero_add, this]
    exact uv_at hj

theorem same_nums (a b : Value) (l : List Nat) (ha : RdU w a l) (hb : RdU w b l) :
    Calls Tryz.prog 33 #[a, b] w fun e w' => e = .returned (.bool true) ∧ Aside (Keeps Nowhere w w') := by
  obtain ⟨pa, ca, rfl, hla, hma, hca⟩ := ha
  obtain ⟨pb, cb, rfl, hlb, hmb, hcb⟩ := hb
  obtain ⟨n, hn⟩ : ∃ n, n = l.length := ⟨_, rfl⟩
  have hl : n ≤ 9223372036854775807 := by unfold maxLen at hma; omega
  have CA : Aside (∀ k, k < n → ∃ x o u, pa = some ⟨x, o, none⟩ ∧ l[k]? = some u ∧ w.cell? ⟨x, o + k, none⟩ = some (.int .u32 (u : Nat))) := ⟨by
    intro k hk
    have e := List.getElem?_eq_getElem (l := l) (i := k) (by omega)
    obtain ⟨g, o, h1, h2⟩ := hca k _ e
    exact ⟨g, o, _, h1, e, h2⟩⟩
  have CB : Aside (∀ k u, l[k]? = some u → ∃ x o, pb = some ⟨x, o, none⟩ ∧ w.cell? ⟨x, o + k, none⟩ = some (.int .u32 (u : Nat))) := ⟨fun k u e => hcb k u e⟩
  rw [← hn] at hla hlb ⊢
  clear hca hcb hn hma hmb
  go_enter Tryz.func33, Tryz.ntmps33
  go_wp2
  go_loopw [5] (fun i wr => ∃ k : Nat, k ≤ n ∧ i = .int .i64 k ∧ Aside (Keeps Nowhere w wr)) (fun i _ => n - (intOf i).toNat)
  case atStart => exact ⟨0, Nat.zero_le _, rfl, ⟨Keeps.refl _ _⟩⟩
  case round =>
    obtain ⟨k, hk, rfl, HB⟩ := hrel
    by_cases hkl : k < n
    · obtain ⟨x, o, u, rfl, hu, hx⟩ := CA.it k hkl
      obtain ⟨y, o2, rfl, hy⟩ := CB.it k u hu
      have cx : wr.cell? ⟨x, o + k, none⟩ = some (.int .u32 u) := by rw [HB.it.bel.cell (World.block_lt_of_cell? w _ hx)]; exact hx
      have cy : wr.cell? ⟨y, o2 + k, none⟩ = some (.int .u32 u) := by rw [HB.it.bel.cell (World.block_lt_of_cell? w _ hy)]; exact hy
      clear hx hy hu CA CB
      go_wp2_with fail
      go_quiet (fail)
      go_wp2
      go_roundw
      case rel => exact ⟨k + 1, by omega, by go_num, ⟨HB.it.drewN _⟩⟩
      case measure => simp [intOf]; omega
    · obtain rfl : k = n := by omega
      go_wp2
      go_ret
      exact ⟨rfl, HB⟩
end Go.Proofs.YtnohcbdnhpaafaaGreatDoor

/-
  culvertlaw13.data, and Next with it
-/
namespace Go.Proofs.YtnohcbdnhpaafaaGreatDoor
open Go.RowKit

variable {A : Nat → Addr} {w w' w0 W : World} {own own' : Nat → Nat} {I : Nat → Prop} {s m cb ob ab : Nat} {L : List Tk} {l ks t : List Nat} {vo vm : Value} {bo bm : List Bool}

abbrev opv (k : Int) (t : Tk) (i : Nat) (vo vm : Value) : Value := .agg #[.int .i64 k, .int .i64 t.k, .int .u32 t.s, .int .u32 t.v, .int .u32 i, vo, vm]
/-- data, by owner: its boxes are new -/
theorem data_at (k : Int) (t : Tk) (i : Nat) (g : Ground w0.heap.size w0 own w) (ho : RdBo w0 vo bo) (hm : RdBo w0 vm bm) {v : Value} (ha : CellsO own 7 w ab 27 [v]) (hr : OwR own 8 w 33 1 v l.length (uv l)) :
    Calls Tryz.prog 53 #[opv k t i vo vm, ptr ab] w fun e w' => ∃ cb ob own', e = .returned (.func (.func 79) #[] #[ptr cb, ptr ob]) ∧ Aside (Dt w0 own' w' cb ob ab l vo vm bo bm) ∧ Aside (Sn (fun _ => False) own w own' w') := by
  have G := Aside.mk (And.intro g (And.intro ho (And.intro hm (And.intro ha hr))))
  clear g ho hm ha hr
  obtain ⟨w1, hw1⟩ : ∃ w1, w1 = w.alloc (.cells #[.int .i64 k, .int .i64 t.k, .int .u32 t.s, .int .u32 t.v, .int .u32 i, vo, vm] 38) := ⟨_, rfl⟩
  obtain ⟨w2, hw2⟩ : ∃ w2, w2 = w1.alloc (.cells #[ptr ab] 104) := ⟨_, rfl⟩
  have e1 : w1.heap.size = w.heap.size + 1 := by rw [hw1]; simp
  have c1 : Cells w1 w.heap.size 38 [.int .i64 k, .int .i64 t.k, .int .u32 t.s, .int .u32 t.v, .int .u32 i, vo, vm] := by rw [hw1]; exact Cells.new w _ _
  have k2 : Keeps Nowhere w1 w2 := by rw [hw2]; exact (Keeps.refl _ _).alloc _
  have c2 : Cells w2 w1.heap.size 104 [ptr ab] := by rw [hw2]; exact Cells.new w1 _ _
  have k02 : Keeps Nowhere w w2 := by rw [hw2, hw1]; exact ((Keeps.refl _ _).alloc _).alloc _
  have q : Sn (fun _ => False) own w (give own w.heap.size 7) w2 := Sn.quiet k02 7
  have D : Aside (Dt w0 (give own w.heap.size 7) w2 w1.heap.size w.heap.size ab l vo vm bo bm) := ⟨⟨G.it.1.sn q (fun x => x), ⟨c2, give_new (by omega)⟩, ⟨_, _, _, _, _, c1.later k2 (fun x => x), give_new (Nat.le_refl _)⟩, ⟨_, G.it.2.2.2.1.sn q (fun x => x), G.it.2.2.2.2.sn q (fun x => x)⟩, G.it.2.1, G.it.2.2.1⟩⟩
  have Q := Aside.mk q
  clear c1 k2 c2 k02 q
  go_enter Tryz.func53, Tryz.ntmps53
  go_upto_region 1 with fail
  rw [← hw1, ← hw2]
  rw [e1] at D
  clear hw1 hw2 G
  go_wp2
  go_ret
  exact ⟨_, _, _, rfl, D, Q⟩
theorem datOk (B : Nat) (hB : B * 4 ≤ 140737488355328) (hbo : bo.length ≤ 9223372036854775807) (hbm : bm.length ≤ 9223372036854775807) : Sdat.DtOk cb ob (fun l own W => Dt w0 own W cb ob ab l vo vm bo bm) (fun _ j => saidL bo j) (fun _ j => saidL bm j) (fun j => j) B :=
  ⟨fun l id own W _ hl h => data1 h id (by omega) hbo hbm, fun I l own W own' W' h q h0 h7 h8 => h.sn q h0 h7 h8⟩
/-- all that data says is yes: the first in turn is served -/
theorem nextD {k : Nat} (h : Sc A w0 own w s [] m (k :: t)) (d : Dt w0 own w cb ob ab [] vo vm [] []) (hl : (k :: t).length * 4 ≤ 140737488355328) :
    Calls Tryz.prog 9 #[ptr s, .func (.func 79) #[] #[ptr cb, ptr ob]] w fun e w' => ∃ own' g, e = .returned (.tuple #[fdv k 0 (.slice (some ⟨g, 0, none⟩) 2 2), .bool true]) ∧ Aside (Sc A w0 own' w' s [] m (t ++ [k])) ∧ Aside (Dt w0 own' w' cb ob ab [k] vo vm [] []) ∧ Aside (Sn Sdat.In8 own w own' w') := by
  refine (Sdat.next_data (datOk (k :: t).length hl (by simp) (by simp)) h d (Nat.le_refl _) (by omega) 0 (Nat.zero_le _) (fun i k hi => absurd hi (by omega)) (fun k hk => rfl)).mono ?_
  rintro e w' ⟨own', q, h⟩
  rcases h with ⟨h, _⟩ | ⟨k', g, hk, rfl, h⟩
  · simp at h
  · have hk : k = k' := by simpa using hk
    subst hk
    exact ⟨own', g, rfl, ⟨h.it.1⟩, ⟨h.it.2.1⟩, q⟩
/-- none has a turn -/
theorem nextD0 (h : Sc A w0 own w s [] m []) (d : Dt w0 own w cb ob ab [] vo vm bo bm) (hbo : bo.length ≤ 9223372036854775807) (hbm : bm.length ≤ 9223372036854775807) :
    Calls Tryz.prog 9 #[ptr s, .func (.func 79) #[] #[ptr cb, ptr ob]] w fun e w' => ∃ own', e = .returned (.tuple #[.agg zero6.toArray, .bool false]) ∧ Aside (Sc A w0 own' w' s [] m []) ∧ Aside (Dt w0 own' w' cb ob ab [] vo vm bo bm) ∧ Aside (Sn Sdat.In8 own w own' w') := by
  refine (Sdat.next_data (datOk 0 (by omega) hbo hbm) h d (Nat.le_refl _) (by simp) 0 (Nat.zero_le _) (fun i k hi => absurd hi (by omega)) (fun k hk => by simp at hk)).mono ?_
  rintro e w' ⟨own', q, h⟩
  rcases h with ⟨_, rfl, h⟩ | ⟨k', g, hk, _⟩
  · exact ⟨own', rfl, ⟨h.it.1⟩, ⟨h.it.2⟩, q⟩
  · simp at hk
end Go.Proofs.YtnohcbdnhpaafaaGreatDoor

