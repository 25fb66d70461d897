/-
  culvertlaw15.TableTexts: its world
-/
import Derived.Test.YtbdnggkfpkfcoaaDoorLwV
import Derived.Test.YtbdnggkfpkfcoaaDoorLwO
import Derived.Test.YtbdnggkfpkfcoaaDoorTbBstring
import Derived.Test.YtbdnggkfpkfcoaaDoorTbBop
import Derived.Test.YtbdnggkfpkfcoaaDoorShelf
import Derived.Lib.ItoaLen
namespace Go.Proofs.YtbdnggkfpkfcoaaDoor
open Go.RowKit

section
variable {β γ : Type}
/-- each thing told by another -/
def tmap (f : β → γ) (L : Tl β) : Tl γ := L.map (fun x => (x.1, f x.2))
theorem tlook_tmap (f : β → γ) (L : Tl β) (k : Nat) : tlook (tmap f L) k = (tlook L k).map f := by
  induction L with
  | nil => rfl
  | cons x L ih =>
    show (if x.1 = k then some (f x.2) else tlook (tmap f L) k) = (if x.1 = k then some x.2 else tlook L k).map f
    split
    · rfl
    · exact ih
theorem tput_tmap (f : β → γ) (L : Tl β) (k : Nat) (v : β) : tput (tmap f L) k (f v) = tmap f (tput L k v) := by
  induction L with
  | nil => rfl
  | cons x L ih =>
    show (if x.1 < k then (x.1, f x.2) :: tput (tmap f L) k (f v) else (k, f v) :: (x.1, f x.2) :: tmap f L) = tmap f (if x.1 < k then x :: tput L k v else (k, v) :: x :: L)
    split
    · rw [ih]; rfl
    · rfl
theorem tdel_tmap (f : β → γ) (L : Tl β) (k : Nat) : tdel (tmap f L) k = tmap f (tdel L k) := by
  unfold tdel tmap
  rw [List.filter_map]
  rfl
theorem len_tmap (f : β → γ) (L : Tl β) : (tmap f L).length = L.length := by simp [tmap]
theorem ks_tmap (f : β → γ) (L : Tl β) : ks (tmap f L) = ks L := by simp [ks, tmap]
end

/-- the text of a number, the place of a number -/
def sv (n : Int) : ByteArray := ⟨#[118]⟩ ++ ⟨(Lib.itoa n).toArray⟩
def pv (ob : Nat) (n : Int) : Option Addr := some ⟨ob, n.toNat * 3, none⟩

theorem putC_s (a0 : Int) (L : Tl Int) (k : Nat) : Tbstring.putC a0 (tmap sv L) k = Tbint.putC a0 L k := by
  unfold Tbstring.putC Tbint.putC
  rw [tlook_tmap, len_tmap, Option.isSome_map]
theorem putL_s (a0 : Int) (L : Tl Int) (k : Nat) (x : Int) : Tbstring.putL a0 (tmap sv L) k (sv x) = tmap sv (Tbint.putL a0 L k x) := by
  unfold Tbstring.putL Tbint.putL
  rw [tlook_tmap, len_tmap, Option.isSome_map, tput_tmap]
  split
  · rfl
  · split <;> rfl
theorem putC_p (ob : Nat) (a0 : Int) (L : Tl Int) (k : Nat) : Tbop.putC a0 (tmap (pv ob) L) k = Tbint.putC a0 L k := by
  unfold Tbop.putC Tbint.putC
  rw [tlook_tmap, len_tmap, Option.isSome_map]
theorem putL_p (ob : Nat) (a0 : Int) (L : Tl Int) (k : Nat) (x : Int) : Tbop.putL a0 (tmap (pv ob) L) k (pv ob x) = tmap (pv ob) (Tbint.putL a0 L k x) := by
  unfold Tbop.putL Tbint.putL
  rw [tlook_tmap, len_tmap, Option.isSome_map, tput_tmap]
  split
  · rfl
  · split <;> rfl

def PowT (w : World) : Prop := Lib.TabIs Tryd.prog w "internal/strconv.uint64pow10" .u64 Lib.pow10Tab
theorem powT_later {w w' : World} (h : PowT w) (hb : Below w.heap.size w w') : PowT w' := by
  have hg : Tryd.prog.globalNamed "internal/strconv.uint64pow10" = some 42 := by kernel_rfl
  unfold PowT Lib.TabIs at h ⊢
  rw [← h]
  simp only [World.var?, hg, Option.bind_some]
  rw [hb.block _ ?_]
  have hc := World.var?_cell hg h 0
  have : w.cell? ⟨42, 0, none⟩ = some (.int .u64 1) := by rw [hc]; rfl
  exact World.block_lt_of_cell? w _ this
theorem below_growK (w : World) (k : Nat) (os : Array Obj) : Below w.heap.size w (Go.Sort.grow (w.drewN k) os) := by
  refine ⟨rfl, rfl, rfl, ?_, fun b hb => ?_⟩
  · simp [Go.Sort.grow]
  · show (w.heap ++ os)[b]? = w.heap[b]?
    exact Array.getElem?_append_left hb

/-- the two tables and the document's, its box, the row of one's own, and boxes (owner 6) -/
structure Tx (A : Nat → Addr) (w0 : World) (own : Nat → Nat) (W : World) (pt pp : Nat) (a0 : Int) (Ls Lp Ld : Tl Int) (v vb : Value) (wb ob N : Nat) (B : List (Nat × TypeId × List Value)) : Prop where
  g : OnG A w0 own W
  pow : PowT w0
  ts : Tbstring.TbO own 1 W pt a0 (tmap sv Ls)
  tp : Tbop.TbO own 2 W pp a0 (tmap (pv ob) Lp)
  d : RdD own W v Ld
  c : CellsO own 8 W wb 31 [.int .i64 a0, vb]
  o : ∃ cs, cs.length = N * 3 ∧ CellsO own 7 W ob 39 cs
  b : ∀ x ∈ B, CellsO own 6 W x.1 x.2.1 x.2.2
variable {A : Nat → Addr} {w0 w' W : World} {own own' : Nat → Nat} {pt pp wb ob N : Nat} {a0 : Int} {Ls Lp Ld L : Tl Int} {v vb : Value} {B : List (Nat × TypeId × List Value)} {I : Nat → Prop} {id : Nat}
theorem Tx.sn (h : Tx A w0 own W pt pp a0 Ls Lp Ld v vb wb ob N B) (s : Sn I own W own' w') (h0 : ¬ I 0) (h1 : ¬ I 1) (h2 : ¬ I 2) (h6 : ¬ I 6) (h7 : ¬ I 7) (h8 : ¬ I 8) (h9 : ¬ I 9) : Tx A w0 own' w' pt pp a0 Ls Lp Ld v vb wb ob N B := by
  obtain ⟨cs, hcs, ho⟩ := h.o
  exact ⟨h.g.sn s h0, h.pow, h.ts.sn s h1, h.tp.sn s h2, h.d.sn s h9, h.c.sn s h8, ⟨cs, hcs, ho.sn s h7⟩, fun x hx => (h.b x hx).sn s h6⟩
theorem Tx.step (h : Tx A w0 own W pt pp a0 Ls Lp Ld v vb wb ob N B) (hk : Keeps Nowhere W w') (r : Nat) : Tx A w0 (give own W.heap.size r) w' pt pp a0 Ls Lp Ld v vb wb ob N B := h.sn (I := fun _ => False) (Sn.quiet hk r) (fun x => x) (fun x => x) (fun x => x) (fun x => x) (fun x => x) (fun x => x) (fun x => x)
theorem Tx.quiet (h : Tx A w0 own W pt pp a0 Ls Lp Ld v vb wb ob N B) (hk : Keeps Nowhere W w') : Tx A w0 own w' pt pp a0 Ls Lp Ld v vb wb ob N B := h.sn (I := fun _ => False) (Sn.same hk) (fun x => x) (fun x => x) (fun x => x) (fun x => x) (fun x => x) (fun x => x) (fun x => x)
theorem Tx.bel (h : Tx A w0 own W pt pp a0 Ls Lp Ld v vb wb ob N B) : Keeps Nowhere w0 W := Keeps.ofBelow h.g.g.bel
theorem Tx.cells (h : Tx A w0 own W pt pp a0 Ls Lp Ld v vb wb ob N B) : W.cell? ⟨wb, 0, none⟩ = some (.int .i64 a0) ∧ W.cell? ⟨wb, 1, none⟩ = some vb ∧ W.frozen? ⟨wb, 0, none⟩ = false ∧ W.frozen? ⟨wb, 1, none⟩ = false := ⟨by rw [h.c.1.cell]; rfl, by rw [h.c.1.cell]; rfl, h.c.1.frozen 0, h.c.1.frozen 1⟩
theorem Tx.hw (h : Aside (Tx A w0 own W pt pp a0 Ls Lp Ld v vb wb ob N B)) : W.cell? ⟨wb, 0, none⟩ = some (.int .i64 a0) ∧ W.cell? ⟨wb, 1, none⟩ = some vb := ⟨h.it.cells.1, h.it.cells.2.1⟩
theorem Tx.write (h : Tx A w0 own W pt pp a0 Ls Lp Ld v vb wb ob N B) (y : Value) : Tx A w0 own ((W.setCell ⟨wb, 0, none⟩ (.int .i64 a0)).setCell ⟨wb, 1, none⟩ y) pt pp a0 Ls Lp Ld v y wb ob N B := by
  have s8 : Sn (fun k => k = 8) own W own ((W.setCell ⟨wb, 0, none⟩ (.int .i64 a0)).setCell ⟨wb, 1, none⟩ y) := ⟨fun _ _ => rfl, ((Keeps.refl _ _).setCell _ _ (fun _ => h.c.2)).setCell _ _ (fun _ => h.c.2)⟩
  obtain ⟨cs, hcs, ho⟩ := h.o
  exact ⟨h.g.sn s8 (by decide), h.pow, h.ts.sn s8 (by decide), h.tp.sn s8 (by decide), h.d.sn s8 (by decide), ⟨(h.c.1.setCell 0 (.int .i64 a0)).setCell 1 y, h.c.2⟩, ⟨cs, hcs, ho.sn s8 (by decide)⟩, fun x hx => (h.b x hx).sn s8 (by decide)⟩
theorem Tx.drop (h : Tx A w0 own W pt pp a0 Ls Lp Ld v vb wb ob N B) : Tx A w0 own W pt pp a0 Ls Lp Ld v vb wb ob N [] := ⟨h.g, h.pow, h.ts, h.tp, h.d, h.c, h.o, fun x hx => by cases hx⟩
/-- one more box -/
theorem Tx.box (h : Tx A w0 own W pt pp a0 Ls Lp Ld v vb wb ob N B) (t : TypeId) (cs : List Value) : Tx A w0 (give own W.heap.size 6) (W.alloc (.cells cs.toArray t)) pt pp a0 Ls Lp Ld v vb wb ob N ((W.heap.size, t, cs) :: B) := by
  have h' := h.step ((Keeps.refl _ _).alloc (.cells cs.toArray t)) 6
  exact ⟨h'.g, h'.pow, h'.ts, h'.tp, h'.d, h'.c, h'.o, fun x hx => by
    rcases List.mem_cons.1 hx with rfl | hx
    · exact ⟨Cells.new W t cs, give_new (Nat.le_refl _)⟩
    · exact h'.b x hx⟩
/-- the row: three cells at each place, and it takes an op -/
theorem Tx.row (h : Tx A w0 own W pt pp a0 Ls Lp Ld v vb wb ob N B) {k : Nat} (hk : k < N * 3) : (∃ r, W.cell? ⟨ob, k, none⟩ = some r) ∧ W.frozen? ⟨ob, k, none⟩ = false := by
  obtain ⟨cs, hcs, ho⟩ := h.o
  exact ⟨⟨cs[k]'(by omega), by rw [ho.1.cell, List.getElem?_eq_getElem]⟩, ho.1.frozen k⟩
theorem Tx.own1 (h : Tx A w0 own W pt pp a0 Ls Lp Ld v vb wb ob N B) (k : Nat) (y : Value) : Tx A w0 own (W.setCell ⟨ob, k, none⟩ y) pt pp a0 Ls Lp Ld v vb wb ob N B := by
  obtain ⟨cs, hcs, ho⟩ := h.o
  have s7 : Sn (fun k => k = 7) own W own (W.setCell ⟨ob, k, none⟩ y) := ⟨fun _ _ => rfl, (Keeps.refl _ _).setCell _ _ (fun _ => ho.2)⟩
  exact ⟨h.g.sn s7 (by decide), h.pow, h.ts.sn s7 (by decide), h.tp.sn s7 (by decide), h.d.sn s7 (by decide), h.c.sn s7 (by decide), ⟨_, by rw [List.length_set]; exact hcs, ⟨ho.1.setCell k y, ho.2⟩⟩, fun x hx => (h.b x hx).sn s7 (by decide)⟩

theorem tx_itoa (h : Aside (Tx A w0 own W pt pp a0 Ls Lp Ld v vb wb ob N B)) (n : Int) (h0 : 0 ≤ n) (h1 : n ≤ 9223372036854775807) : Calls Tryd.prog 20 #[.int .i64 n] W fun e w' => e = .returned (.string ⟨(Lib.itoa n).toArray⟩) ∧ Aside (Tx A w0 own w' pt pp a0 Ls Lp Ld v vb wb ob N B) := by
  refine (Tryd.strconv_Itoa n (by omega) h1 W (powT_later h.it.pow h.it.g.g.bel)).mono ?_
  rintro e w' ⟨rfl, k, os, rfl⟩
  exact ⟨rfl, ⟨h.it.quiet (Keeps.ofBelow (below_growK W k os))⟩⟩
theorem tx_dput (h : Aside (Tx A w0 own W pt pp a0 Ls Lp Ld v vb wb ob N B)) (x : Int) (hl : Ld.length ≤ 4294967296) : Calls Tryd.prog 18 #[.agg #[.int .i64 a0, v], .int .u32 id, .int .i64 x] W fun e w' => ∃ qa ql qc own6, e = .returned (.tuple #[.agg #[.int .i64 a0, .slice qa ql qc], .int .i64 (Tbint.putC a0 Ld id)]) ∧ Aside (Tx A w0 own6 w' pt pp a0 Ls Lp (Tbint.putL a0 Ld id x) (.slice qa ql qc) vb wb ob N B) := by
  refine (dput a0 id x h.it.d hl).mono ?_
  rintro e w' ⟨v6, rfl, R, K⟩
  obtain ⟨qa, qc, rfl, _⟩ := R.it.shape
  have h' := h.it.step K.it 9
  exact ⟨qa, _, qc, _, rfl, ⟨h'.g, h'.pow, h'.ts, h'.tp, R.it, h'.c, h'.o, h'.b⟩⟩
theorem tx_ddrop (h : Aside (Tx A w0 own W pt pp a0 Ls Lp Ld v vb wb ob N B)) (hl : Ld.length ≤ 4294967296) : Calls Tryd.prog 25 #[.agg #[.int .i64 a0, v], .int .u32 id] W fun e w' => ∃ qa ql qc own6 y z, e = .returned (.tuple #[.agg #[.int .i64 a0, .slice qa ql qc], .int .i64 y, .bool z]) ∧ Aside (Tx A w0 own6 w' pt pp a0 Ls Lp (tdel Ld id) (.slice qa ql qc) vb wb ob N B) := by
  refine (ddrop a0 id h.it.d hl).mono ?_
  rintro e w' ⟨v6, rfl, R, K⟩
  obtain ⟨qa, qc, rfl, _⟩ := R.it.shape
  have h' := h.it.step K.it 9
  exact ⟨qa, _, qc, _, _, _, rfl, ⟨h'.g, h'.pow, h'.ts, h'.tp, R.it, h'.c, h'.o, h'.b⟩⟩
theorem tx_dget (h : Aside (Tx A w0 own W pt pp a0 Ls Lp Ld v vb wb ob N B)) (hl : Ld.length ≤ 4294967296) {o : Option Int} (ho : tlook Ld id = o) : Calls Tryd.prog 22 #[.agg #[.int .i64 a0, v], .int .u32 id] W fun e w' => e = .returned (.tuple #[.int .i64 (o.getD 0), .bool o.isSome]) ∧ Aside (Tx A w0 own w' pt pp a0 Ls Lp Ld v vb wb ob N B) := by
  subst ho
  refine (dget a0 id h.it.d hl).mono ?_
  rintro e w' ⟨rfl, K⟩
  exact ⟨rfl, ⟨h.it.quiet K.it⟩⟩
theorem tx_get (h : Aside (Tx A w0 own W pt pp a0 Ls Lp Ld v vb wb ob N B)) (hid : id ≤ 4294967295) {o : Option Int} (ho : tlook Ls id = o) : Calls Tryd.prog 23 #[ptr pt, .int .u32 id] W fun e w' => e = .returned (.tuple #[Tbstring.gotV (o.map sv), .bool o.isSome]) ∧ Aside (Tx A w0 own w' pt pp a0 Ls Lp Ld v vb wb ob N B) := by
  subst ho
  refine (Tbstring.get_at h.it.ts hid).mono ?_
  rintro e w' ⟨rfl, rfl⟩
  rw [tlook_tmap, Option.isSome_map]
  exact ⟨rfl, h⟩
theorem tx_getp (h : Aside (Tx A w0 own W pt pp a0 Ls Lp Ld v vb wb ob N B)) (hid : id ≤ 4294967295) {o : Option Int} (ho : tlook Lp id = o) : Calls Tryd.prog 24 #[ptr pp, .int .u32 id] W fun e w' => e = .returned (.tuple #[Tbop.gotV (o.map (pv ob)), .bool o.isSome]) ∧ Aside (Tx A w0 own w' pt pp a0 Ls Lp Ld v vb wb ob N B) := by
  subst ho
  refine (Tbop.get_at h.it.tp hid).mono ?_
  rintro e w' ⟨rfl, rfl⟩
  rw [tlook_tmap, Option.isSome_map]
  exact ⟨rfl, h⟩
theorem tx_drop (h : Aside (Tx A w0 own W pt pp a0 Ls Lp Ld v vb wb ob N B)) (hid : id ≤ 4294967295) {o : Option Int} (ho : tlook Ls id = o) : Calls Tryd.prog 26 #[ptr pt, .int .u32 id] W fun e w' => e = .returned (.tuple #[Tbstring.gotV (o.map sv), .bool o.isSome]) ∧ Aside (Tx A w0 own w' pt pp a0 (tdel Ls id) Lp Ld v vb wb ob N B) := by
  subst ho
  refine (Tbstring.drop_at h.it.ts hid).mono ?_
  rintro e w' ⟨rfl, X⟩
  rw [tlook_tmap, Option.isSome_map]
  obtain ⟨cs, hcs, ho⟩ := h.it.o
  have s := X.it.2
  exact ⟨rfl, ⟨h.it.g.sn s (by decide), h.it.pow, by rw [← tdel_tmap]; exact X.it.1, h.it.tp.sn s (by decide), h.it.d.sn s (by decide), h.it.c.sn s (by decide), ⟨cs, hcs, ho.sn s (by decide)⟩, fun x hx => (h.it.b x hx).sn s (by decide)⟩⟩
theorem tx_dropp (h : Aside (Tx A w0 own W pt pp a0 Ls Lp Ld v vb wb ob N B)) (hid : id ≤ 4294967295) {o : Option Int} (ho : tlook Lp id = o) : Calls Tryd.prog 27 #[ptr pp, .int .u32 id] W fun e w' => e = .returned (.tuple #[Tbop.gotV (o.map (pv ob)), .bool o.isSome]) ∧ Aside (Tx A w0 own w' pt pp a0 Ls (tdel Lp id) Ld v vb wb ob N B) := by
  subst ho
  refine (Tbop.drop_at h.it.tp hid).mono ?_
  rintro e w' ⟨rfl, X⟩
  rw [tlook_tmap, Option.isSome_map]
  obtain ⟨cs, hcs, ho⟩ := h.it.o
  have s := X.it.2
  exact ⟨rfl, ⟨h.it.g.sn s (by decide), h.it.pow, h.it.ts.sn s (by decide), by rw [← tdel_tmap]; exact X.it.1, h.it.d.sn s (by decide), h.it.c.sn s (by decide), ⟨cs, hcs, ho.sn s (by decide)⟩, fun x hx => (h.it.b x hx).sn s (by decide)⟩⟩
theorem tx_put (h : Aside (Tx A w0 own W pt pp a0 Ls Lp Ld v vb wb ob N B)) (hid : id ≤ 4294967295) (x : Int) {k : Int} (hk : Tbint.putC a0 Ls id = k) : Calls Tryd.prog 19 #[ptr pt, .int .u32 id, .string (sv x)] W fun e w' => ∃ ev, e = .returned ev ∧ Hid (Coded A ev k) ∧ Aside (Tx A w0 own w' pt pp a0 (Tbint.putL a0 Ls id x) Lp Ld v vb wb ob N B) := by
  subst hk
  refine (Tbstring.put_at h.it.ts hid (sv x) h.it.g.sents).mono ?_
  rintro e w' ⟨ev, rfl, C, X⟩
  rw [putC_s] at C
  obtain ⟨cs, hcs, ho⟩ := h.it.o
  have s := X.it.2
  exact ⟨ev, rfl, C, ⟨h.it.g.sn s (by decide), h.it.pow, by rw [← putL_s]; exact X.it.1, h.it.tp.sn s (by decide), h.it.d.sn s (by decide), h.it.c.sn s (by decide), ⟨cs, hcs, ho.sn s (by decide)⟩, fun x hx => (h.it.b x hx).sn s (by decide)⟩⟩
theorem tx_putp (h : Aside (Tx A w0 own W pt pp a0 Ls Lp Ld v vb wb ob N B)) (hid : id ≤ 4294967295) (x : Int) {k : Int} (hk : Tbint.putC a0 Lp id = k) : Calls Tryd.prog 21 #[ptr pp, .int .u32 id, .pointer (pv ob x)] W fun e w' => ∃ ev, e = .returned ev ∧ Hid (Coded A ev k) ∧ Aside (Tx A w0 own w' pt pp a0 Ls (Tbint.putL a0 Lp id x) Ld v vb wb ob N B) := by
  subst hk
  refine (Tbop.put_at h.it.tp hid (pv ob x) h.it.g.sents).mono ?_
  rintro e w' ⟨ev, rfl, C, X⟩
  rw [putC_p] at C
  obtain ⟨cs, hcs, ho⟩ := h.it.o
  have s := X.it.2
  exact ⟨ev, rfl, C, ⟨h.it.g.sn s (by decide), h.it.pow, h.it.ts.sn s (by decide), by rw [← putL_p]; exact X.it.1, h.it.d.sn s (by decide), h.it.c.sn s (by decide), ⟨cs, hcs, ho.sn s (by decide)⟩, fun x hx => (h.it.b x hx).sn s (by decide)⟩⟩
theorem tx_code (h : Aside (Tx A w0 own W pt pp a0 Ls Lp Ld v vb wb ob N B)) {ev : Value} {k : Int} (c : Hid (Coded A ev k)) : Calls Tryd.prog 12 #[ev] W fun e w' => e = .returned (.int .i64 k) ∧ Aside (Tx A w0 own w' pt pp a0 Ls Lp Ld v vb wb ob N B) := by
  refine (code_of h.it.g.sents c.out).mono ?_
  rintro e w' ⟨rfl, rfl⟩
  exact ⟨rfl, h⟩
theorem tx_ids (h : Aside (Tx A w0 own W pt pp a0 Ls Lp Ld v vb wb ob N B)) : Calls Tryd.prog 29 #[ptr pt] W fun e w' => ∃ g cap, e = .returned (.slice (some ⟨g, 0, none⟩) Ls.length cap) ∧ Aside (RdU w' (.slice (some ⟨g, 0, none⟩) Ls.length cap) (ks Ls)) ∧ Aside (Tx A w0 own w' pt pp a0 Ls Lp Ld v vb wb ob N B) := by
  refine (Tbstring.ids_at h.it.ts).mono ?_
  rintro e w' ⟨g, cap, rfl, _, R, K⟩
  rw [len_tmap, ks_tmap] at R
  rw [len_tmap]
  exact ⟨g, cap, rfl, ⟨owns_rdU R.it⟩, ⟨h.it.quiet K.it⟩⟩
theorem tx_idsp (h : Aside (Tx A w0 own W pt pp a0 Ls Lp Ld v vb wb ob N B)) : Calls Tryd.prog 31 #[ptr pp] W fun e w' => ∃ g cap, e = .returned (.slice (some ⟨g, 0, none⟩) Lp.length cap) ∧ Aside (RdU w' (.slice (some ⟨g, 0, none⟩) Lp.length cap) (ks Lp)) ∧ Aside (Tx A w0 own w' pt pp a0 Ls Lp Ld v vb wb ob N B) := by
  refine (Tbop.ids_at h.it.tp).mono ?_
  rintro e w' ⟨g, cap, rfl, _, R, K⟩
  rw [len_tmap, ks_tmap] at R
  rw [len_tmap]
  exact ⟨g, cap, rfl, ⟨owns_rdU R.it⟩, ⟨h.it.quiet K.it⟩⟩
theorem tx_dids (h : Aside (Tx A w0 own W pt pp a0 Ls Lp Ld v vb wb ob N B)) {r : Value} {l : List Nat} (hr : Aside (RdU W r l)) (hl : Ld.length ≤ 4294967296) : Calls Tryd.prog 30 #[.agg #[.int .i64 a0, v]] W fun e w' => ∃ v2, e = .returned v2 ∧ Aside (RdU w' v2 (ks Ld)) ∧ Aside (RdU w' r l) ∧ Aside (Tx A w0 own w' pt pp a0 Ls Lp Ld v vb wb ob N B) := by
  refine (dids a0 h.it.d hl).mono ?_
  rintro e w' ⟨v2, rfl, R, K⟩
  exact ⟨v2, rfl, R, ⟨hr.it.quiet K.it⟩, ⟨h.it.quiet K.it⟩⟩
theorem tx_same (h : Aside (Tx A w0 own W pt pp a0 Ls Lp Ld v vb wb ob N B)) {a c : Value} {l : List Nat} (ha : Aside (RdU W a l)) (hc : Aside (RdU W c l)) : Calls Tryd.prog 28 #[a, c] W fun e w' => e = .returned (.bool true) ∧ Aside (Tx A w0 own w' pt pp a0 Ls Lp Ld v vb wb ob N B) := by
  refine (same_ids a c l ha.it hc.it).mono ?_
  rintro e w' ⟨rfl, K⟩
  exact ⟨rfl, ⟨h.it.quiet K.it⟩⟩

/-- make([]Op, n) -/
theorem opinfo : (Tryd.prog.info? 39).map (fun i => (i.zero, i.size, i.bytes)) = some (some (.agg #[.int .i64 0, .int .u32 0, .int .i64 0]), 3, 24) := by kernel_rfl
theorem make_ops (w : World) (n : Nat) (hn : n * 24 ≤ 140737488351232) : ∃ w' cs, Aside (MakeRun Tryd.prog 22 n w (.slice (some ⟨w.heap.size, 0, none⟩) n n) w') ∧ Aside (cs.length = n * 3 ∧ Cells w' w.heap.size 39 cs ∧ Keeps Nowhere w w') := by
  cases hi : Tryd.prog.info? 39 with
  | none => have := opinfo; rw [hi] at this; cases this
  | some i =>
    have e := opinfo
    rw [hi] at e
    simp only [Option.map_some, Option.some.injEq, Prod.mk.injEq] at e
    have h := run_make (P := Tryd.prog) w 22 39 i _ Tryd.underlying22 hi e.1 .i64 .i64 n n (by omega) (by omega) (by rw [e.2.2]; omega) (by omega)
    refine ⟨_, (madeCells (Value.agg #[.int .i64 0, .int .u32 0, .int .i64 0]).cells ((n : Int).toNat * i.size)).toList, ⟨⟨h⟩⟩, ⟨?_, ?_, (Keeps.refl _ _).alloc _⟩⟩
    · rw [e.2.1]; simp [madeCells]
    · exact heap_alloc_new w _
/-- what is put, numbered from below -/
theorem putL_lt {j : Nat} {x : Int} (hx : 0 ≤ x ∧ x < (j + 1 : Nat)) (h : ∀ y ∈ L, 0 ≤ y.2 ∧ y.2 < (j : Nat)) : ∀ y ∈ Tbint.putL a0 L id x, 0 ≤ y.2 ∧ y.2 < ((j + 1 : Nat) : Int) := by
  intro y hy
  have old : y ∈ L → 0 ≤ y.2 ∧ y.2 < ((j + 1 : Nat) : Int) := fun h' => by have := h y h'; omega
  unfold Tbint.putL at hy
  split at hy
  · exact old hy
  · split at hy
    · exact old hy
    · rcases mem_tput hy with rfl | h'
      · exact hx
      · exact old h'
end Go.Proofs.YtbdnggkfpkfcoaaDoor
