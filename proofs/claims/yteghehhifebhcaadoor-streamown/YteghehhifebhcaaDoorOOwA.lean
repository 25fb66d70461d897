/-
  StreamOwn's world: two streams above the ground, rows of bytes by their owners (11 and up).
-/
import Derived.Test.YteghehhifebhcaaDoorOSlB
import Derived.Test.YteghehhifebhcaaDoorOApartC
namespace Go.Proofs.YteghehhifebhcaaDoor
open Go.RowKit

section
variable {own own' : Nat → Nat} {W W' w0 : World} {A : Nat → Addr} {pa pb : Nat} {da db d' : Dm} {L : List (Nat × Value × List Int)} {I : Nat → Prop}
theorem rowO_rowB {o : Nat} {v : Value} {ns : List Int} (h : RowO own o W 5 v (bv ns)) (hl : ns.length ≤ maxLen) : RowB own o W v ns := by
  refine ⟨?_, h.2⟩
  rcases h.1 with ⟨rfl, e⟩ | ⟨g, rfl, hc⟩
  · have : ns = [] := by simpa [bv] using e
    subst this
    exact World.ownsRow_nil _ _ _ _
  · refine ⟨by rw [bv_length]; omega, .inr ⟨g, (bv ns).length, (bv ns).toArray, by rw [bv_length], Nat.zero_le _, hc, by rw [bv_length]; exact Nat.le_refl _, by rw [bv_length]; exact hl, by simp, List.take_of_length_le (by simp [bv])⟩⟩
theorem RowB.front {o g l c : Nat} {ns : List Int} (h : RowB own o W (.slice (some ⟨g, 0, none⟩) l c) ns) (k : Nat) (hk : k ≤ ns.length) : RowB own o W (.slice (some ⟨g, 0, none⟩) k c) (ns.take k) := ⟨OwnB.front (B := 0) h.1 k hk, h.2⟩
theorem strOf_append (x y : List Int) : strOf x ++ strOf y = strOf (x ++ y) := by
  apply ByteArray.ext
  simp [strOf]
theorem strOf_size (x : List Int) : (strOf x).size = x.length := by simp [strOf, ByteArray.size]
theorem str_take (xs : List Int) (k : Nat) (hk : k ≤ xs.length) (w : World) : (Instr.slice 9 (.string (strOf xs)) none (some (.int .i64 k)) none).run Tryd.prog w = .ok (.string (strOf (xs.take k))) w := by
  have e : (strOf xs).extract 0 k = strOf (xs.take k) := by
    apply ByteArray.ext
    rw [ByteArray.data_extract]
    simp [strOf]
  have h2 : (k : Int) ≤ ((strOf xs).size : Int) := by rw [strOf_size]; omega
  simp [Instr.slice, run_underlying Tryd.underlying9, Instr.sliceBounds, go_sem, h2, e]
theorem str_drop (xs : List Int) (k : Nat) (hk : k ≤ xs.length) (w : World) : (Instr.slice 9 (.string (strOf xs)) (some (.int .i64 k)) none none).run Tryd.prog w = .ok (.string (strOf (xs.drop k))) w := by
  have e : (strOf xs).extract k (strOf xs).size = strOf (xs.drop k) := by
    apply ByteArray.ext
    rw [ByteArray.data_extract, strOf_size]
    simp [strOf]
    exact List.take_of_length_le (by simp)
  have h2 : (k : Int) ≤ ((strOf xs).size : Int) := by rw [strOf_size]; omega
  simp [Instr.slice, run_underlying Tryd.underlying9, Instr.sliceBounds, go_sem, h2, e]

structure Ow (A : Nat → Addr) (w0 : World) (own : Nat → Nat) (W : World) (pa pb : Nat) (da db : Dm) (L : List (Nat × Value × List Int)) : Prop where
  g : Gs A w0 own W
  a : StmI own 1 W pa da
  b : StmI own 6 W pb db
  r : ∀ x ∈ L, RowB own x.1 W x.2.1 x.2.2
  l : ∀ x ∈ L, 11 ≤ x.1
theorem Ow.sn (h : Ow A w0 own W pa pb da db L) (s : Sn I own W own' W') (hI : ∀ k, k < 11 → ¬ I k) (hL : ∀ x ∈ L, ¬ I x.1) : Ow A w0 own' W' pa pb da db L :=
  ⟨h.g.sn s (hI 0 (by omega)), h.a.sn s (fun k _ b => hI k (by omega)), h.b.sn s (fun k _ b => hI k (by omega)), fun x hx => (h.r x hx).sn s (hL x hx), h.l⟩
theorem Ow.quiet (h : Aside (Ow A w0 own W pa pb da db L)) (k : Keeps Nowhere W W') : Aside (Ow A w0 own W' pa pb da db L) := ⟨h.it.sn (I := fun _ => False) (Sn.same k) (fun _ _ x => x) (fun _ _ x => x)⟩
theorem Ow.toA (h : Ow A w0 own W pa pb da db L) (st : StmI own' 1 W' pa d') (s : Sn (Five 1) own W own' W') : Ow A w0 own' W' pa pb d' db L :=
  ⟨h.g.sn s (by unfold Five; omega), st, h.b.sn s (fun k _ _ => by unfold Five; omega), fun x hx => (h.r x hx).sn s (by have := h.l x hx; unfold Five; omega), h.l⟩
theorem Ow.toB (h : Ow A w0 own W pa pb da db L) (st : StmI own' 6 W' pb d') (s : Sn (Five 6) own W own' W') : Ow A w0 own' W' pa pb da d' L :=
  ⟨h.g.sn s (by unfold Five; omega), h.a.sn s (fun k _ _ => by unfold Five; omega), st, fun x hx => (h.r x hx).sn s (by have := h.l x hx; unfold Five; omega), h.l⟩
theorem Ow.more {o : Nat} {v : Value} {ns : List Int} (h : Ow A w0 own W pa pb da db L) (r : RowB own o W v ns) (ho : 11 ≤ o) : Ow A w0 own W pa pb da db ((o, v, ns) :: L) :=
  ⟨h.g, h.a, h.b, fun x hx => by rcases List.mem_cons.1 hx with rfl | hx; exact r; exact h.r x hx, fun x hx => by rcases List.mem_cons.1 hx with rfl | hx; exact ho; exact h.l x hx⟩
theorem Ow.bare (h : Ow A w0 own W pa pb da db L) : Ow A w0 own W pa pb da db [] := ⟨h.g, h.a, h.b, fun x hx => by simp at hx, fun x hx => by simp at hx⟩
/-- a new empty row of 11's -/
theorem Ow.empty (h : Aside (Ow A w0 own W pa pb da db [])) : Aside (Ow A w0 (give own W.heap.size 11) (W.alloc (.cells #[] 5)) pa pb da db [(11, .slice (some ⟨W.heap.size, 0, none⟩) 0 0, [])]) := by
  have k : Keeps Nowhere W (W.alloc (.cells #[] 5)) := (Keeps.refl _ _).alloc _
  refine ⟨(h.it.sn (I := fun _ => False) (Sn.quiet k 11) (fun _ _ x => x) (fun _ _ x => x)).more ⟨?_, fun b hb => ?_⟩ (by omega)⟩
  · exact own_newA (B := 0) W [] 0 rfl (Nat.zero_le _) (Nat.zero_le _)
  · simp [Value.ownBlock] at hb
    subst hb
    exact give_new (Nat.le_refl _)
/-- the row has grown -/
theorem Ow.app {v v' : Value} {ns ms : List Int} (h : Aside (Ow A w0 own W pa pb da db [(11, v, ns)])) (o1 : Aside (W'.ownsRow 0 5 1 v' ms.length (bv ms))) (k1 : Aside (Keeps (fun b => v.ownBlock = some b) W W')) (b1 : Aside (∀ b, v'.ownBlock = some b → v.ownBlock = some b ∨ W.heap.size ≤ b)) :
    Aside (Ow A w0 (give own W.heap.size 11) W' pa pb da db [(11, v', ms)]) := by
  obtain ⟨r, s⟩ := (h.it.r (11, v, ns) (by simp)).app o1.it k1.it b1.it
  refine ⟨(h.it.bare.sn s (fun k hk e => by omega) (fun x hx => by simp at hx)).more r (by omega)⟩
theorem Ow.row {v : Value} {ns : List Int} {o : Nat} (h : Aside (Ow A w0 own W pa pb da db ((o, v, ns) :: L))) : RowB own o W v ns := h.it.r (o, v, ns) (by simp)
/-- a byte of the row is written -/
theorem Ow.set {g l c : Nat} {ns : List Int} (h : Aside (Ow A w0 own W pa pb da db [(11, .slice (some ⟨g, 0, none⟩) l c, ns)])) (k : Nat) (hk : k < ns.length) (x : Int) :
    Aside (Ow A w0 own (W.setCell ⟨g, k, none⟩ (.int .u8 x)) pa pb da db [(11, .slice (some ⟨g, 0, none⟩) l c, ns.set k x)]) := by
  have r := Ow.row h
  have s : Sn (fun j => j = 11) own W own (W.setCell ⟨g, k, none⟩ (.int .u8 x)) := ⟨fun _ _ => rfl, (Keeps.refl _ _).setCell _ _ (fun _ => r.2 g rfl)⟩
  exact ⟨(h.it.bare.sn s (fun k hk e => by omega) (fun x hx => by simp at hx)).more ⟨OwnB.set (B := 0) r.1 k hk x, r.2⟩ (by omega)⟩

theorem owWrite {g l c n : Nat} {ns xs : List Int} (h : Aside (Ow A w0 own W pa pb da db [(11, .slice (some ⟨g, 0, none⟩) l c, ns)])) (hx : ns.take n = xs) (hn : n ≤ ns.length) (hl : n ≤ 1000) :
    Calls Tryd.prog 17 #[ptr pa, .slice (some ⟨g, 0, none⟩) n c] W fun e w' => ∃ v k own', e = .returned (.tuple #[.int .i64 k, v]) ∧ Aside (Ow A w0 own' w' pa pb (da.wrD xs) db [(11, .slice (some ⟨g, 0, none⟩) l c, ns)]) := by
  have r := (Ow.row h).front n hn
  rw [hx] at r
  refine (write_at h.it.a h.it.g.st.s _ xs (copied_reads (I := Five 1) r (by unfold Five; omega)) (by rw [← hx, List.length_take]; omega)).mono ?_
  rintro e w' ⟨v, rfl, _, Y⟩
  obtain ⟨own', st, s⟩ := Y.it
  exact ⟨v, _, own', rfl, ⟨h.it.toA st s⟩⟩
theorem owArrive {g l c n : Nat} {ns xs : List Int} (h : Aside (Ow A w0 own W pa pb da db [(11, .slice (some ⟨g, 0, none⟩) l c, ns)])) (hx : ns.take n = xs) (hn : n ≤ ns.length) :
    Calls Tryd.prog 25 #[ptr pb, .slice (some ⟨g, 0, none⟩) n c, .bool false] W fun e w' => ∃ v own', e = .returned v ∧ Aside (Ow A w0 own' w' pa pb da (db.arD xs false) [(11, .slice (some ⟨g, 0, none⟩) l c, ns)]) := by
  have r := (Ow.row h).front n hn
  rw [hx] at r
  refine (arrive_at10 h.it.b h.it.g (by omega) _ n c xs (by rw [← hx, List.length_take]; omega) false (copied_reads (I := Five 6) r (by unfold Five; omega))).mono ?_
  rintro e w' ⟨v, rfl, _, Y⟩
  obtain ⟨own', st, s⟩ := Y.it
  exact ⟨v, own', rfl, ⟨h.it.toB st s⟩⟩
theorem owRead (o : Nat) (ho : 11 ≤ o) (m : Int) (h : Aside (Ow A w0 own W pa pb da db L)) :
    Calls Tryd.prog 24 #[ptr pb, .int .i64 m] W fun e w' => ∃ sq k v own', e = .returned (.tuple #[.slice sq k k, .int .u32 (db.rdG m), v]) ∧ Aside (k = (db.unread.take (db.rdK m)).length) ∧ Aside (Ow A w0 own' w' pa pb da (db.rdD m) ((o, .slice sq k k, db.unread.take (db.rdK m)) :: L)) := by
  refine (read_at10 h.it.b h.it.g (by omega) m o (by unfold Five; omega)).mono ?_
  rintro e w' ⟨sq, k, v, rfl, hk, _, Y⟩
  obtain ⟨own', st, r, s⟩ := Y.it
  have u := h.it.b.ok.un
  have u2 := h.it.b.ok.win2
  exact ⟨sq, k, v, own', rfl, hk, ⟨(h.it.toB st s).more (rowO_rowB r (by rw [List.length_take]; unfold maxLen; omega)) ho⟩⟩
theorem owFrame (o : Nat) (ho : 11 ≤ o) (h : Aside (Ow A w0 own W pa pb da db L)) (hc : da.closing = false) (h0 : da.off = false) (hm : da.mine = true) (hcr : 0 < da.credit) (hk : da.staged.length ≤ da.frK) :
    Calls Tryd.prog 21 #[ptr pa] W fun e w' => ∃ sq k own' x3 x4 b, e = .returned (.tuple #[.agg #[.int .u8 0, .int .u8 0, .int .u16 0, .int .u32 x3, .int .u32 x4, .slice sq k k], .bool b]) ∧ Aside (k = da.staged.length) ∧ Aside (∃ d', Ow A w0 own' w' pa pb d' db ((o, .slice sq k k, da.staged) :: L)) := by
  have hL : da.frL = false := by unfold Dm.frL; rw [hc]; rfl
  by_cases e : da.staged = []
  · have hr : da.ready = false := by unfold Dm.ready; rw [if_pos e, hc, h0]; simp
    refine (frame_no h.it.a h.it.g.st.tab hr).mono ?_
    rintro e' w' ⟨rfl, K⟩
    refine ⟨none, 0, own, 0, 0, false, rfl, ⟨by rw [e]; rfl⟩, ⟨da, (Ow.quiet h K.it).it.more (by rw [e]; exact RowB.nil _ _ _) ho⟩⟩
  · have hr : da.ready = true := by unfold Dm.ready; rw [if_neg e, h0, hm]; simpa using hcr
    refine (frame_yes h.it.a h.it.g (by omega) hr o (by unfold Five; omega) (by omega)).mono ?_
    rintro e' w' ⟨sq, k, rfl, hk', Y⟩
    rw [hL]
    have ht : da.staged.take da.frK = da.staged := List.take_of_length_le hk
    obtain ⟨own', st, r, s⟩ := Y.it
    have hk2 := hk'.it
    rw [ht] at r hk2
    have u := h.it.a.ok.st
    have u2 := h.it.a.ok.stage2
    exact ⟨sq, k, own', _, _, true, rfl, ⟨hk2⟩, ⟨_, (h.it.toA st s).more (rowO_rowB r (by unfold maxLen; omega)) ho⟩⟩
/-- the four lists are written over: the streams are as they were -/
theorem owApart {v1 v2 v3 : Value} {n1 n2 n3 ms : List Int} {g l c k : Nat} (h : Aside (Ow A w0 own W pa pb da db [(14, v3, n3), (13, v2, n2), (12, v1, n1), (11, .slice (some ⟨g, 0, none⟩) l c, ms)])) (hk : k ≤ ms.length) (l1 : n1.length ≤ 1000) (l2 : n2.length ≤ 1000) (l3 : n3.length ≤ 1000) (l4 : k ≤ 1000) :
    Calls Tryd.prog 27 #[.slice (some ⟨W.heap.size, 0, none⟩) 4 4] (W.alloc (.cells #[v1, v2, v3, .slice (some ⟨g, 0, none⟩) k c] 36)) fun e w' => ∃ own', e = .returned (.bool true) ∧ Aside (Ow A w0 own' w' pa pb da db []) ∧ Aside (Sn (fun j => 11 ≤ j ∧ j ≤ 14) own W own' w') := by
  obtain ⟨o, ho⟩ : ∃ o : Nat → Nat, o = fun b => if b < W.heap.size then (if own b = 12 then 1 else if own b = 13 then 2 else if own b = 14 then 3 else if own b = 11 then 4 else 0) else 0 := ⟨_, rfl⟩
  have k0 : Keeps Nowhere W (W.alloc (.cells #[v1, v2, v3, .slice (some ⟨g, 0, none⟩) k c] 36)) := (Keeps.refl _ _).alloc _
  have r3 := h.it.r (14, v3, n3) (by simp)
  have r2 := h.it.r (13, v2, n2) (by simp)
  have r1 := h.it.r (12, v1, n1) (by simp)
  have r4 := (h.it.r (11, .slice (some ⟨g, 0, none⟩) l c, ms) (by simp)).front k hk
  have s0 : Sn (fun _ => False) own W own (W.alloc (.cells #[v1, v2, v3, .slice (some ⟨g, 0, none⟩) k c] 36)) := Sn.same k0
  have mine : ∀ (v : Value) (ns : List Int) (q j : Nat), RowB own q W v ns → (∀ b, b < W.heap.size → own b = q → o b = j) → Mine o j v := fun v ns q j r hj b hb => hj b (owns_lt r.1 b hb) (r.2 b hb)
  have e1 : ∀ b, b < W.heap.size → own b = 12 → o b = 1 := fun b hb e => by rw [ho]; simp [hb, e]
  have e2 : ∀ b, b < W.heap.size → own b = 13 → o b = 2 := fun b hb e => by rw [ho]; simp [hb, e]
  have e3 : ∀ b, b < W.heap.size → own b = 14 → o b = 3 := fun b hb e => by rw [ho]; simp [hb, e]
  have e4 : ∀ b, b < W.heap.size → own b = 11 → o b = 4 := fun b hb e => by rw [ho]; simp [hb, e]
  refine (apart_walkK 0 (W.alloc (.cells #[v1, v2, v3, .slice (some ⟨g, 0, none⟩) k c] 36)) o W.heap.size 4 [v1, v2, v3, .slice (some ⟨g, 0, none⟩) k c] (fun j => ([n1, n2, n3, ms.take k] : List (List Int)).getD j []) (Nat.zero_le _) ⟨[], Cells.new W 36 [v1, v2, v3, .slice (some ⟨g, 0, none⟩) k c]⟩ (by rw [ho]; simp) (by show 4 ≤ 1000; omega) (Nat.le_refl _) ?_).mono ?_
  · intro j v hv
    match j, hv with
    | 0, hv => injection hv with e; subst e; exact ⟨(r1.sn s0 (fun x => x)).1, mine _ _ _ _ r1 e1, Nat.le_trans l1 (by decide)⟩
    | 1, hv => injection hv with e; subst e; exact ⟨(r2.sn s0 (fun x => x)).1, mine _ _ _ _ r2 e2, Nat.le_trans l2 (by decide)⟩
    | 2, hv => injection hv with e; subst e; exact ⟨(r3.sn s0 (fun x => x)).1, mine _ _ _ _ r3 e3, Nat.le_trans l3 (by decide)⟩
    | 3, hv => injection hv with e; subst e; exact ⟨(r4.sn s0 (fun x => x)).1, mine _ _ _ _ r4 e4, by show (ms.take k).length ≤ _; rw [List.length_take]; omega⟩
    | j + 4, hv => cases hv
  · rintro e w' ⟨rfl, _, K⟩
    have s : Sn (fun j => 11 ≤ j ∧ j ≤ 14) own W own w' := ⟨fun _ _ => rfl, k0.any.next K (fun b e hb => by
      rw [ho] at e
      by_cases a1 : own b = 12
      · omega
      by_cases a2 : own b = 13
      · omega
      by_cases a3 : own b = 14
      · omega
      by_cases a4 : own b = 11
      · omega
      simp [a1, a2, a3, a4] at e)⟩
    exact ⟨own, rfl, ⟨h.it.bare.sn s (fun k hk e => by omega) (fun x hx => by simp at hx)⟩, ⟨s⟩⟩
end
end Go.Proofs.YteghehhifebhcaaDoor
