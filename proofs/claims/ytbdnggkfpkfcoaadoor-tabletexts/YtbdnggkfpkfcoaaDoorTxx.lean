import Derived.Test.YtbdnggkfpkfcoaaDoorLwV
import Derived.Test.YtbdnggkfpkfcoaaDoorLwO
import Derived.Test.YtbdnggkfpkfcoaaDoorTbBstring
import Derived.Test.YtbdnggkfpkfcoaaDoorTbBop
import Derived.Test.YtbdnggkfpkfcoaaDoorShelf
import Derived.Lib.ItoaLen
import Derived.MapKept
import Derived.BigRegion
import Derived.Deep.RegionHeldLaw
import Derived.Test.YtbdnggkfpkfcoaaDoorLwS
import Derived.Lib.Builder
/-
  culvertlaw15.TableTexts: its world
-/
namespace Go.Proofs.YtbdnggkfpkfcoaaDoor
open Go.RowKit

section
variable {β γ : Type}
/-- each thing told by another -/
def tmap (f : β → γ) (L : Tl β) : Tl γ := L.map (fun x => (x.1, f x.2))
theorem tlook_tmap (f : β → γ) (L : Tl β) (k : Nat) : tlook (tmap f L) k = (tlook L k).map f := by
  induction L with
  | nil => rfl
  | cons x L ih =>
    show (if x.1 = k then some (f x.2) else tlook (tmap f L) k) = (if x.1 = k then some x.2 else tlook L k).map f
    split
    · rfl
    · exact ih
theorem tput_tmap (f : β → γ) (L : Tl β) (k : Nat) (v : β) : tput (tmap f L) k (f v) = tmap f (tput L k v) := by
  induction L with
  | nil => rfl
  | cons x L ih =>
    show (if x.1 < k then (x.1, f x.2) :: tput (tmap f L) k (f v) else (k, f v) :: (x.1, f x.2) :: tmap f L) = tmap f (if x.1 < k then x :: tput L k v else (k, v) :: x :: L)
    split
    · rw [ih]; rfl
    · rfl
theorem tdel_tmap (f : β → γ) (L : Tl β) (k : Nat) : tdel (tmap f L) k = tmap f (tdel L k) := by
  unfold tdel tmap
  rw [List.filter_map]
  rfl
theorem len_tmap (f : β → γ) (L : Tl β) : (tmap f L).length = L.length := by simp [tmap]
theorem ks_tmap (f : β → γ) (L : Tl β) : ks (tmap f L) = ks L := by simp [ks, tmap]
end

/-- the text of a number, the place of a number -/
def sv (n : Int) : ByteArray := ⟨#[118]⟩ ++ ⟨(Lib.itoa n).toArray⟩
def pv (ob : Nat) (n : Int) : Option Addr := some ⟨ob, n.toNat * 3, none⟩

theorem putC_s (a0 : Int) (L : Tl Int) (k : Nat) : Tbstring.putC a0 (tmap sv L) k = Tbint.putC a0 L k := by
  unfold Tbstring.putC Tbint.putC
  rw [tlook_tmap, len_tmap, Option.isSome_map]
theorem putL_s (a0 : Int) (L : Tl Int) (k : Nat) (x : Int) : Tbstring.putL a0 (tmap sv L) k (sv x) = tmap sv (Tbint.putL a0 L k x) := by
  unfold Tbstring.putL Tbint.putL
  rw [tlook_tmap, len_tmap, Option.isSome_map, tput_tmap]
  split
  · rfl
  · split <;> rfl
theorem putC_p (ob : Nat) (a0 : Int) (L : Tl Int) (k : Nat) : Tbop.putC a0 (tmap (pv ob) L) k = Tbint.putC a0 L k := by
  unfold Tbop.putC Tbint.putC
  rw [tlook_tmap, len_tmap, Option.isSome_map]
theorem putL_p (ob : Nat) (a0 : Int) (L : Tl Int) (k : Nat) (x : Int) : Tbop.putL a0 (tmap (pv ob) L) k (pv ob x) = tmap (pv ob) (Tbint.putL a0 L k x) := by
  unfold Tbop.putL Tbint.putL
  rw [tlook_tmap, len_tmap, Option.isSome_map, tput_tmap]
  split
  · rfl
  · split <;> rfl

def PowT (w : World) : Prop := Lib.TabIs Tryd.prog w "internal/strconv.uint64pow10" .u64 Lib.pow10Tab
theorem powT_later {w w' : World} (h : PowT w) (hb : Below w.heap.size w w') : PowT w' := by
  have hg : Tryd.prog.globalNamed "internal/strconv.uint64pow10" = some 42 := by kernel_rfl
  unfold PowT Lib.TabIs at h ⊢
  rw [← h]
  simp only [World.var?, hg, Option.bind_some]
  rw [hb.block _ ?_]
  have hc := World.var?_cell hg h 0
  have : w.cell? ⟨42, 0, none⟩ = some (.int .u64 1) := by rw [hc]; rfl
  exact World.block_lt_of_cell? w _ this
theorem below_growK (w : World) (k : Nat) (os : Array Obj) : Below w.heap.size w (Go.Sort.grow (w.drewN k) os) := by
  refine ⟨rfl, rfl, rfl, ?_, fun b hb => ?_⟩
  · simp [Go.Sort.grow]
  · show (w.heap ++ os)[b]? = w.heap[b]?
    exact Array.getElem?_append_left hb

/-- the two tables and the document's, its box, the row of one's own, and boxes (owner 6) -/
structure Tx (A : Nat → Addr) (w0 : World) (own : Nat → Nat) (W : World) (pt pp : Nat) (a0 : Int) (Ls Lp Ld : Tl Int) (v vb : Value) (wb ob N : Nat) (B : List (Nat × TypeId × List Value)) : Prop where
  g : OnG A w0 own W
  pow : PowT w0
  ts : Tbstring.TbO own 1 W pt a0 (tmap sv Ls)
  tp : Tbop.TbO own 2 W pp a0 (tmap (pv ob) Lp)
  d : RdD own W v Ld
  c : CellsO own 8 W wb 31 [.int .i64 a0, vb]
  o : ∃ cs, cs.length = N * 3 ∧ CellsO own 7 W ob 39 cs
  b : ∀ x ∈ B, CellsO own 6 W x.1 x.2.1 x.2.2
variable {A : Nat → Addr} {w0 w' W : World} {own own' : Nat → Nat} {pt pp wb ob N : Nat} {a0 : Int} {Ls Lp Ld L : Tl Int} {v vb : Value} {B : List (Nat × TypeId × List Value)} {I : Nat → Prop} {id : Nat}
theorem Tx.sn (h : Tx A w0 own W pt pp a0 Ls Lp Ld v vb wb ob N B) (s : Sn I own W own' w') (h0 : ¬ I 0) (h1 : ¬ I 1) (h2 : ¬ I 2) (h6 : ¬ I 6) (h7 : ¬ I 7) (h8 : ¬ I 8) (h9 : ¬ I 9) : Tx A w0 own' w' pt pp a0 Ls Lp Ld v vb wb ob N B := by
  obtain ⟨cs, hcs, ho⟩ := h.o
  exact ⟨h.g.sn s h0, h.pow, h.ts.sn s h1, h.tp.sn s h2, h.d.sn s h9, h.c.sn s h8, ⟨cs, hcs, ho.sn s h7⟩, fun x hx => (h.b x hx).sn s h6⟩
theorem Tx.step (h : Tx A w0 own W pt pp a0 Ls Lp Ld v vb wb ob N B) (hk : Keeps Nowhere W w') (r : Nat) : Tx A w0 (give own W.heap.size r) w' pt pp a0 Ls Lp Ld v vb wb ob N B := h.sn (I := fun _ => False) (Sn.quiet hk r) (fun x => x) (fun x => x) (fun x => x) (fun x => x) (fun x => x) (fun x => x) (fun x => x)
theorem Tx.quiet (h : Tx A w0 own W pt pp a0 Ls Lp Ld v vb wb ob N B) (hk : Keeps Nowhere W w') : Tx A w0 own w' pt pp a0 Ls Lp Ld v vb wb ob N B := h.sn (I := fun _ => False) (Sn.same hk) (fun x => x) (fun x => x) (fun x => x) (fun x => x) (fun x => x) (fun x => x) (fun x => x)
theorem Tx.bel (h : Tx A w0 own W pt pp a0 Ls Lp Ld v vb wb ob N B) : Keeps Nowhere w0 W := Keeps.ofBelow h.g.g.bel
theorem Tx.cells (h : Tx A w0 own W pt pp a0 Ls Lp Ld v vb wb ob N B) : W.cell? ⟨wb, 0, none⟩ = some (.int .i64 a0) ∧ W.cell? ⟨wb, 1, none⟩ = some vb ∧ W.frozen? ⟨wb, 0, none⟩ = false ∧ W.frozen? ⟨wb, 1, none⟩ = false := ⟨by rw [h.c.1.cell]; rfl, by rw [h.c.1.cell]; rfl, h.c.1.frozen 0, h.c.1.frozen 1⟩
theorem Tx.hw (h : Aside (Tx A w0 own W pt pp a0 Ls Lp Ld v vb wb ob N B)) : W.cell? ⟨wb, 0, none⟩ = some (.int .i64 a0) ∧ W.cell? ⟨wb, 1, none⟩ = some vb := ⟨h.it.cells.1, h.it.cells.2.1⟩
theorem Tx.write (h : Tx A w0 own W pt pp a0 Ls Lp Ld v vb wb ob N B) (y : Value) : Tx A w0 own ((W.setCell ⟨wb, 0, none⟩ (.int .i64 a0)).setCell ⟨wb, 1, none⟩ y) pt pp a0 Ls Lp Ld v y wb ob N B := by
  have s8 : Sn (fun k => k = 8) own W own ((W.setCell ⟨wb, 0, none⟩ (.int .i64 a0)).setCell ⟨wb, 1, none⟩ y) := ⟨fun _ _ => rfl, ((Keeps.refl _ _).setCell _ _ (fun _ => h.c.2)).setCell _ _ (fun _ => h.c.2)⟩
  obtain ⟨cs, hcs, ho⟩ := h.o
  exact ⟨h.g.sn s8 (by decide), h.pow, h.ts.sn s8 (by decide), h.tp.sn s8 (by decide), h.d.sn s8 (by decide), ⟨(h.c.1.setCell 0 (.int .i64 a0)).setCell 1 y, h.c.2⟩, ⟨cs, hcs, ho.sn s8 (by decide)⟩, fun x hx => (h.b x hx).sn s8 (by decide)⟩
theorem Tx.drop (h : Tx A w0 own W pt pp a0 Ls Lp Ld v vb wb ob N B) : Tx A w0 own W pt pp a0 Ls Lp Ld v vb wb ob N [] := ⟨h.g, h.pow, h.ts, h.tp, h.d, h.c, h.o, fun x hx => by cases hx⟩
/-- one more box -/
theorem Tx.box (h : Tx A w0 own W pt pp a0 Ls Lp Ld v vb wb ob N B) (t : TypeId) (cs : List Value) : Tx A w0 (give own W.heap.size 6) (W.alloc (.cells cs.toArray t)) pt pp a0 Ls Lp Ld v vb wb ob N ((W.heap.size, t, cs) :: B) := by
  have h' := h.step ((Keeps.refl _ _).alloc (.cells cs.toArray t)) 6
  exact ⟨h'.g, h'.pow, h'.ts, h'.tp, h'.d, h'.c, h'.o, fun x hx => by
    rcases List.mem_cons.1 hx with rfl | hx
    · exact ⟨Cells.new W t cs, give_new (Nat.le_refl _)⟩
    · exact h'.b x hx⟩
/-- the row: three cells at each place, and it takes an op -/
theorem Tx.row (h : Tx A w0 own W pt pp a0 Ls Lp Ld v vb wb ob N B) {k : Nat} (hk : k < N * 3) : (∃ r, W.cell? ⟨ob, k, none⟩ = some r) ∧ W.frozen? ⟨ob, k, none⟩ = false := by
  obtain ⟨cs, hcs, ho⟩ := h.o
  exact ⟨⟨cs[k]'(by omega), by rw [ho.1.cell, List.getElem?_eq_getElem]⟩, ho.1.frozen k⟩
theorem Tx.own1 (h : Tx A w0 own W pt pp a0 Ls Lp Ld v vb wb ob N B) (k : Nat) (y : Value) : Tx A w0 own (W.setCell ⟨ob, k, none⟩ y) pt pp a0 Ls Lp Ld v vb wb ob N B := by
  obtain ⟨cs, hcs, ho⟩ := h.o
  have s7 : Sn (fun k => k = 7) own W own (W.setCell ⟨ob, k, none⟩ y) := ⟨fun _ _ => rfl, (Keeps.refl _ _).setCell _ _ (fun _ => ho.2)⟩
  exact ⟨h.g.sn s7 (by decide), h.pow, h.ts.sn s7 (by decide), h.tp.sn s7 (by decide), h.d.sn s7 (by decide), h.c.sn s7 (by decide), ⟨_, by rw [List.length_set]; exact hcs, ⟨ho.1.setCell k y, ho.2⟩⟩, fun x hx => (h.b x hx).sn s7 (by decide)⟩

theorem tx_itoa (h : Aside (Tx A w0 own W pt pp a0 Ls Lp Ld v vb wb ob N B)) (n : Int) (h0 : 0 ≤ n) (h1 : n ≤ 9223372036854775807) : Calls Tryd.prog 20 #[.int .i64 n] W fun e w' => e = .returned (.string ⟨(Lib.itoa n).toArray⟩) ∧ Aside (Tx A w0 own w' pt pp a0 Ls Lp Ld v vb wb ob N B) := by
  refine (Tryd.strconv_Itoa n (by omega) h1 W (powT_later h.it.pow h.it.g.g.bel)).mono ?_
  rintro e w' ⟨rfl, k, os, rfl⟩
  exact ⟨rfl, ⟨h.it.quiet (Keeps.ofBelow (below_growK W k os))⟩⟩
theorem tx_dput (h : Aside (Tx A w0 own W pt pp a0 Ls Lp Ld v vb wb ob N B)) (x : Int) (hl : Ld.length ≤ 4294967296) : Calls Tryd.prog 18 #[.agg #[.int .i64 a0, v], .int .u32 id, .int .i64 x] W fun e w' => ∃ qa ql qc own6, e = .returned (.tuple #[.agg #[.int .i64 a0, .slice qa ql qc], .int .i64 (Tbint.putC a0 Ld id)]) ∧ Aside (Tx A w0 own6 w' pt pp a0 Ls Lp (Tbint.putL a0 Ld id x) (.slice qa ql qc) vb wb ob N B) := by
  refine (dput a0 id x h.it.d hl).mono ?_
  rintro e w' ⟨v6, rfl, R, K⟩
  obtain ⟨qa, qc, rfl, _⟩ := R.it.shape
  have h' := h.it.step K.it 9
  exact ⟨qa, _, qc, _, rfl, ⟨h'.g, h'.pow, h'.ts, h'.tp, R.it, h'.c, h'.o, h'.b⟩⟩
theorem tx_ddrop (h : Aside (Tx A w0 own W pt pp a0 Ls Lp Ld v vb wb ob N B)) (hl : Ld.length ≤ 4294967296) : Calls Tryd.prog 25 #[.agg #[.int .i64 a0, v], .int .u32 id] W fun e w' => ∃ qa ql qc own6 y z, e = .returned (.tuple #[.agg #[.int .i64 a0, .slice qa ql qc], .int .i64 y, .bool z]) ∧ Aside (Tx A w0 own6 w' pt pp a0 Ls Lp (tdel Ld id) (.slice qa ql qc) vb wb ob N B) := by
  refine (ddrop a0 id h.it.d hl).mono ?_
  rintro e w' ⟨v6, rfl, R, K⟩
  obtain ⟨qa, qc, rfl, _⟩ := R.it.shape
  have h' := h.it.step K.it 9
  exact ⟨qa, _, qc, _, _, _, rfl, ⟨h'.g, h'.pow, h'.ts, h'.tp, R.it, h'.c, h'.o, h'.b⟩⟩
theorem tx_dget (h : Aside (Tx A w0 own W pt pp a0 Ls Lp Ld v vb wb ob N B)) (hl : Ld.length ≤ 4294967296) {o : Option Int} (ho : tlook Ld id = o) : Calls Tryd.prog 22 #[.agg #[.int .i64 a0, v], .int .u32 id] W fun e w' => e = .returned (.tuple #[.int .i64 (o.getD 0), .bool o.isSome]) ∧ Aside (Tx A w0 own w' pt pp a0 Ls Lp Ld v vb wb ob N B) := by
  subst ho
  refine (dget a0 id h.it.d hl).mono ?_
  rintro e w' ⟨rfl, K⟩
  exact ⟨rfl, ⟨h.it.quiet K.it⟩⟩
theorem tx_get (h : Aside (Tx A w0 own W pt pp a0 Ls Lp Ld v vb wb ob N B)) (hid : id ≤ 4294967295) {o : Option Int} (ho : tlook Ls id = o) : Calls Tryd.prog 23 #[ptr pt, .int .u32 id] W fun e w' => e = .returned (.tuple #[Tbstring.gotV (o.map sv), .bool o.isSome]) ∧ Aside (Tx A w0 own w' pt pp a0 Ls Lp Ld v vb wb ob N B) := by
  subst ho
  refine (Tbstring.get_at h.it.ts hid).mono ?_
  rintro e w' ⟨rfl, rfl⟩
  rw [tlook_tmap, Option.isSome_map]
  exact ⟨rfl, h⟩
theorem tx_getp (h : Aside (Tx A w0 own W pt pp a0 Ls Lp Ld v vb wb ob N B)) (hid : id ≤ 4294967295) {o : Option Int} (ho : tlook Lp id = o) : Calls Tryd.prog 24 #[ptr pp, .int .u32 id] W fun e w' => e = .returned (.tuple #[Tbop.gotV (o.map (pv ob)), .bool o.isSome]) ∧ Aside (Tx A w0 own w' pt pp a0 Ls Lp Ld v vb wb ob N B) := by
  subst ho
  refine (Tbop.get_at h.it.tp hid).mono ?_
  rintro e w' ⟨rfl, rfl⟩
  rw [tlook_tmap, Option.isSome_map]
  exact ⟨rfl, h⟩
theorem tx_drop (h : Aside (Tx A w0 own W pt pp a0 Ls Lp Ld v vb wb ob N B)) (hid : id ≤ 4294967295) {o : Option Int} (ho : tlook Ls id = o) : Calls Tryd.prog 26 #[ptr pt, .int .u32 id] W fun e w' => e = .returned (.tuple #[Tbstring.gotV (o.map sv), .bool o.isSome]) ∧ Aside (Tx A w0 own w' pt pp a0 (tdel Ls id) Lp Ld v vb wb ob N B) := by
  subst ho
  refine (Tbstring.drop_at h.it.ts hid).mono ?_
  rintro e w' ⟨rfl, X⟩
  rw [tlook_tmap, Option.isSome_map]
  obtain ⟨cs, hcs, ho⟩ := h.it.o
  have s := X.it.2
  exact ⟨rfl, ⟨h.it.g.sn s (by decide), h.it.pow, by rw [← tdel_tmap]; exact X.it.1, h.it.tp.sn s (by decide), h.it.d.sn s (by decide), h.it.c.sn s (by decide), ⟨cs, hcs, ho.sn s (by decide)⟩, fun x hx => (h.it.b x hx).sn s (by decide)⟩⟩
theorem tx_dropp (h : Aside (Tx A w0 own W pt pp a0 Ls Lp Ld v vb wb ob N B)) (hid : id ≤ 4294967295) {o : Option Int} (ho : tlook Lp id = o) : Calls Tryd.prog 27 #[ptr pp, .int .u32 id] W fun e w' => e = .returned (.tuple #[Tbop.gotV (o.map (pv ob)), .bool o.isSome]) ∧ Aside (Tx A w0 own w' pt pp a0 Ls (tdel Lp id) Ld v vb wb ob N B) := by
  subst ho
  refine (Tbop.drop_at h.it.tp hid).mono ?_
  rintro e w' ⟨rfl, X⟩
  rw [tlook_tmap, Option.isSome_map]
  obtain ⟨cs, hcs, ho⟩ := h.it.o
  have s := X.it.2
  exact ⟨rfl, ⟨h.it.g.sn s (by decide), h.it.pow, h.it.ts.sn s (by decide), by rw [← tdel_tmap]; exact X.it.1, h.it.d.sn s (by decide), h.it.c.sn s (by decide), ⟨cs, hcs, ho.sn s (by decide)⟩, fun x hx => (h.it.b x hx).sn s (by decide)⟩⟩
theorem tx_put (h : Aside (Tx A w0 own W pt pp a0 Ls Lp Ld v vb wb ob N B)) (hid : id ≤ 4294967295) (x : Int) {k : Int} (hk : Tbint.putC a0 Ls id = k) : Calls Tryd.prog 19 #[ptr pt, .int .u32 id, .string (sv x)] W fun e w' => ∃ ev, e = .returned ev ∧ Hid (Coded A ev k) ∧ Aside (Tx A w0 own w' pt pp a0 (Tbint.putL a0 Ls id x) Lp Ld v vb wb ob N B) := by
  subst hk
  refine (Tbstring.put_at h.it.ts hid (sv x) h.it.g.sents).mono ?_
  rintro e w' ⟨ev, rfl, C, X⟩
  rw [putC_s] at C
  obtain ⟨cs, hcs, ho⟩ := h.it.o
  have s := X.it.2
  exact ⟨ev, rfl, C, ⟨h.it.g.sn s (by decide), h.it.pow, by rw [← putL_s]; exact X.it.1, h.it.tp.sn s (by decide), h.it.d.sn s (by decide), h.it.c.sn s (by decide), ⟨cs, hcs, ho.sn s (by decide)⟩, fun x hx => (h.it.b x hx).sn s (by decide)⟩⟩
theorem tx_putp (h : Aside (Tx A w0 own W pt pp a0 Ls Lp Ld v vb wb ob N B)) (hid : id ≤ 4294967295) (x : Int) {k : Int} (hk : Tbint.putC a0 Lp id = k) : Calls Tryd.prog 21 #[ptr pp, .int .u32 id, .pointer (pv ob x)] W fun e w' => ∃ ev, e = .returned ev ∧ Hid (Coded A ev k) ∧ Aside (Tx A w0 own w' pt pp a0 Ls (Tbint.putL a0 Lp id x) Ld v vb wb ob N B) := by
  subst hk
  refine (Tbop.put_at h.it.tp hid (pv ob x) h.it.g.sents).mono ?_
  rintro e w' ⟨ev, rfl, C, X⟩
  rw [putC_p] at C
  obtain ⟨cs, hcs, ho⟩ := h.it.o
  have s := X.it.2
  exact ⟨ev, rfl, C, ⟨h.it.g.sn s (by decide), h.it.pow, h.it.ts.sn s (by decide), by rw [← putL_p]; exact X.it.1, h.it.d.sn s (by decide), h.it.c.sn s (by decide), ⟨cs, hcs, ho.sn s (by decide)⟩, fun x hx => (h.it.b x hx).sn s (by decide)⟩⟩
theorem tx_code (h : Aside (Tx A w0 own W pt pp a0 Ls Lp Ld v vb wb ob N B)) {ev : Value} {k : Int} (c : Hid (Coded A ev k)) : Calls Tryd.prog 12 #[ev] W fun e w' => e = .returned (.int .i64 k) ∧ Aside (Tx A w0 own w' pt pp a0 Ls Lp Ld v vb wb ob N B) := by
  refine (code_of h.it.g.sents c.out).mono ?_
  rintro e w' ⟨rfl, rfl⟩
  exact ⟨rfl, h⟩
theorem tx_ids (h : Aside (Tx A w0 own W pt pp a0 Ls Lp Ld v vb wb ob N B)) : Calls Tryd.prog 29 #[ptr pt] W fun e w' => ∃ g cap, e = .returned (.slice (some ⟨g, 0, none⟩) Ls.length cap) ∧ Aside (RdU w' (.slice (some ⟨g, 0, none⟩) Ls.length cap) (ks Ls)) ∧ Aside (Tx A w0 own w' pt pp a0 Ls Lp Ld v vb wb ob N B) := by
  refine (Tbstring.ids_at h.it.ts).mono ?_
  rintro e w' ⟨g, cap, rfl, _, R, K⟩
  rw [len_tmap, ks_tmap] at R
  rw [len_tmap]
  exact ⟨g, cap, rfl, ⟨owns_rdU R.it⟩, ⟨h.it.quiet K.it⟩⟩
theorem tx_idsp (h : Aside (Tx A w0 own W pt pp a0 Ls Lp Ld v vb wb ob N B)) : Calls Tryd.prog 31 #[ptr pp] W fun e w' => ∃ g cap, e = .returned (.slice (some ⟨g, 0, none⟩) Lp.length cap) ∧ Aside (RdU w' (.slice (some ⟨g, 0, none⟩) Lp.length cap) (ks Lp)) ∧ Aside (Tx A w0 own w' pt pp a0 Ls Lp Ld v vb wb ob N B) := by
  refine (Tbop.ids_at h.it.tp).mono ?_
  rintro e w' ⟨g, cap, rfl, _, R, K⟩
  rw [len_tmap, ks_tmap] at R
  rw [len_tmap]
  exact ⟨g, cap, rfl, ⟨owns_rdU R.it⟩, ⟨h.it.quiet K.it⟩⟩
theorem tx_dids (h : Aside (Tx A w0 own W pt pp a0 Ls Lp Ld v vb wb ob N B)) {r : Value} {l : List Nat} (hr : Aside (RdU W r l)) (hl : Ld.length ≤ 4294967296) : Calls Tryd.prog 30 #[.agg #[.int .i64 a0, v]] W fun e w' => ∃ v2, e = .returned v2 ∧ Aside (RdU w' v2 (ks Ld)) ∧ Aside (RdU w' r l) ∧ Aside (Tx A w0 own w' pt pp a0 Ls Lp Ld v vb wb ob N B) := by
  refine (dids a0 h.it.d hl).mono ?_
  rintro e w' ⟨v2, rfl, R, K⟩
  exact ⟨v2, rfl, R, ⟨hr.it.quiet K.it⟩, ⟨h.it.quiet K.it⟩⟩
theorem tx_same (h : Aside (Tx A w0 own W pt pp a0 Ls Lp Ld v vb wb ob N B)) {a c : Value} {l : List Nat} (ha : Aside (RdU W a l)) (hc : Aside (RdU W c l)) : Calls Tryd.prog 28 #[a, c] W fun e w' => e = .returned (.bool true) ∧ Aside (Tx A w0 own w' pt pp a0 Ls Lp Ld v vb wb ob N B) := by
  refine (same_ids a c l ha.it hc.it).mono ?_
  rintro e w' ⟨rfl, K⟩
  exact ⟨rfl, ⟨h.it.quiet K.it⟩⟩

/-- make([]Op, n) -/
theorem opinfo : (Tryd.prog.info? 39).map (fun i => (i.zero, i.size, i.bytes)) = some (some (.agg #[.int .i64 0, .int .u32 0, .int .i64 0]), 3, 24) := by kernel_rfl
theorem make_ops (w : World) (n : Nat) (hn : n * 24 ≤ 140737488351232) : ∃ w' cs, Aside (MakeRun Tryd.prog 22 n w (.slice (some ⟨w.heap.size, 0, none⟩) n n) w') ∧ Aside (cs.length = n * 3 ∧ Cells w' w.heap.size 39 cs ∧ Keeps Nowhere w w') := by
  cases hi : Tryd.prog.info? 39 with
  | none => have := opinfo; rw [hi] at this; cases this
  | some i =>
    have e := opinfo
    rw [hi] at e
    simp only [Option.map_some, Option.some.injEq, Prod.mk.injEq] at e
    have h := run_make (P := Tryd.prog) w 22 39 i _ Tryd.underlying22 hi e.1 .i64 .i64 n n (by omega) (by omega) (by rw [e.2.2]; omega) (by omega)
    refine ⟨_, (madeCells (Value.agg #[.int .i64 0, .int .u32 0, .int .i64 0]).cells ((n : Int).toNat * i.size)).toList, ⟨⟨h⟩⟩, ⟨?_, ?_, (Keeps.refl _ _).alloc _⟩⟩
    · rw [e.2.1]; simp [madeCells]
    · exact heap_alloc_new w _
/-- what is put, numbered from below -/
theorem putL_lt {j : Nat} {x : Int} (hx : 0 ≤ x ∧ x < (j + 1 : Nat)) (h : ∀ y ∈ L, 0 ≤ y.2 ∧ y.2 < (j : Nat)) : ∀ y ∈ Tbint.putL a0 L id x, 0 ≤ y.2 ∧ y.2 < ((j + 1 : Nat) : Int) := by
  intro y hy
  have old : y ∈ L → 0 ≤ y.2 ∧ y.2 < ((j + 1 : Nat) : Int) := fun h' => by have := h y h'; omega
  unfold Tbint.putL at hy
  split at hy
  · exact old hy
  · split at hy
    · exact old hy
    · rcases mem_tput hy with rfl | h'
      · exact hx
      · exact old h'
end Go.Proofs.YtbdnggkfpkfcoaaDoor

/-
  package table at string: IDs of a nil table
-/
namespace Go.Proofs.YtbdnggkfpkfcoaaDoor.Tbstring
open Go.RowKit Go.Maps

variable {own own' : Nat → Nat} {i p k : Nat} {w w' : World} {room : Int} {L : Tl ByteArray} {I : Nat → Prop} {A : Nat → Addr}

set_option maxRecDepth 100000 in
theorem ids_nil (w : World) : Calls Tryd.prog 29 #[.pointer none] w fun e w' => ∃ g cap, e = .returned (.slice (some ⟨g, 0, none⟩) 0 cap) ∧ w.heap.size ≤ g ∧ Aside (w'.ownsRow w.heap.size 37 1 (.slice (some ⟨g, 0, none⟩) 0 cap) 0 []) ∧ Aside (Keeps Nowhere w w') := by
  have hln := len_nil w
  obtain ⟨i0, hi, hz0, hz1, hz2⟩ := info_parts u32info
  go_enter Tryd.func29, Tryd.ntmps29
  go_wp2_with (first
    | (go_at_call 45; refine hln.mono ?_; rintro e w1 ⟨rfl, hw1⟩; subst hw1)
    | (at_make; refine wpList_make_own _ rfl _ _ 63 rfl w1.heap.size 37 i0 (.int .u32 0) 1 Tryd.underlying63 hi hz0 hz1 _ _ _ 0 rfl rfl rfl (by omega) (Nat.zero_le _) (Nat.le_refl _) ?_
       intro w2 hrow2 hg2
       have hh := held_nil w2)
    | (go_at_call 48; refine hh.mono ?_; rintro e w3 ⟨rfl, hw3⟩; subst hw3
       have hrg := run_range_nilMap (P := Tryd.prog) w3 85 37 9 Tryd.underlying85
       have hnx : ∀ ty, (Instr.next (.pointer (some ⟨w3.heap.size, 0, none⟩)) false ty).run Tryd.prog (w3.alloc (.mapIter none 0 #[] 0)) = _ := fun ty => run_next_nilMap _ ty 0 0 #[])
    | go_in)
  refine wp_loop_rounds 1 ?_
  rw [rounds_succ]
  have hrow3 := hrow2.alloc (.mapIter none 0 #[] 0)
  have K3 : Aside (Keeps Nowhere w1 (w3.alloc (.mapIter none 0 #[] 0))) := ⟨(Keeps.mk hg2.os hg2.tape hg2.output hg2.size (fun k hk _ => hg2.block k hk (fun e => by cases e))).alloc _⟩
  have CS := Aside.mk (sort32 w1.heap.size 0 [] _ (owns_any hrow3) (by decide))
  clear hrow2 hrow3
  go_wp2_with (go_at_call 50; refine CS.it.mono ?_; rintro e w6 ⟨rfl, X⟩)
  go_ret
  have e0 : ([] : List Nat).mergeSort (fun x y => decide (x ≤ y)) = [] := by simp
  refine ⟨_, _, rfl, Nat.le_refl _, ⟨?_⟩, ⟨K3.it.next X.it.2 (fun k e hlt => by omega)⟩⟩
  have r := X.it.1
  rw [e0] at r
  exact owns_rebase r (Nat.le_refl _)

end Go.Proofs.YtbdnggkfpkfcoaaDoor.Tbstring

/-
  package table at op: IDs of a nil table
-/
namespace Go.Proofs.YtbdnggkfpkfcoaaDoor.Tbop
open Go.RowKit Go.Maps

variable {own own' : Nat → Nat} {i p k : Nat} {w w' : World} {room : Int} {L : Tl (Option Addr)} {I : Nat → Prop} {A : Nat → Addr}

set_option maxRecDepth 100000 in
theorem ids_nil (w : World) : Calls Tryd.prog 31 #[.pointer none] w fun e w' => ∃ g cap, e = .returned (.slice (some ⟨g, 0, none⟩) 0 cap) ∧ w.heap.size ≤ g ∧ Aside (w'.ownsRow w.heap.size 37 1 (.slice (some ⟨g, 0, none⟩) 0 cap) 0 []) ∧ Aside (Keeps Nowhere w w') := by
  have hln := len_nil w
  obtain ⟨i0, hi, hz0, hz1, hz2⟩ := info_parts u32info
  go_enter Tryd.func31, Tryd.ntmps31
  go_wp2_with (first
    | (go_at_call 47; refine hln.mono ?_; rintro e w1 ⟨rfl, hw1⟩; subst hw1)
    | (at_make; refine wpList_make_own _ rfl _ _ 63 rfl w1.heap.size 37 i0 (.int .u32 0) 1 Tryd.underlying63 hi hz0 hz1 _ _ _ 0 rfl rfl rfl (by omega) (Nat.zero_le _) (Nat.le_refl _) ?_
       intro w2 hrow2 hg2
       have hh := held_nil w2)
    | (go_at_call 49; refine hh.mono ?_; rintro e w3 ⟨rfl, hw3⟩; subst hw3
       have hrg := run_range_nilMap (P := Tryd.prog) w3 88 37 49 Tryd.underlying88
       have hnx : ∀ ty, (Instr.next (.pointer (some ⟨w3.heap.size, 0, none⟩)) false ty).run Tryd.prog (w3.alloc (.mapIter none 0 #[] 0)) = _ := fun ty => run_next_nilMap _ ty 0 0 #[])
    | go_in)
  refine wp_loop_rounds 1 ?_
  rw [rounds_succ]
  have hrow3 := hrow2.alloc (.mapIter none 0 #[] 0)
  have K3 : Aside (Keeps Nowhere w1 (w3.alloc (.mapIter none 0 #[] 0))) := ⟨(Keeps.mk hg2.os hg2.tape hg2.output hg2.size (fun k hk _ => hg2.block k hk (fun e => by cases e))).alloc _⟩
  have CS := Aside.mk (sort32 w1.heap.size 0 [] _ (owns_any hrow3) (by decide))
  clear hrow2 hrow3
  go_wp2_with (go_at_call 50; refine CS.it.mono ?_; rintro e w6 ⟨rfl, X⟩)
  go_ret
  have e0 : ([] : List Nat).mergeSort (fun x y => decide (x ≤ y)) = [] := by simp
  refine ⟨_, _, rfl, Nat.le_refl _, ⟨?_⟩, ⟨K3.it.next X.it.2 (fun k e hlt => by omega)⟩⟩
  have r := X.it.1
  rw [e0] at r
  exact owns_rebase r (Nat.le_refl _)

end Go.Proofs.YtbdnggkfpkfcoaaDoor.Tbop

/-
  culvertlaw15.TableTexts
-/
namespace Go.Proofs.YtbdnggkfpkfcoaaDoor
open Go.RowKit

variable {A : Nat → Addr} {w0 w' W : World} {own own' : Nat → Nat} {pt pp wb ob N : Nat} {a0 : Int} {Ls Lp Ld L : Tl Int} {v vb : Value} {B : List (Nat × TypeId × List Value)} {I : Nat → Prop} {id : Nat}

/-- no tables: the box alone -/
structure Tn (w0 W : World) (wb : Nat) : Prop where
  k : Keeps Nowhere w0 W
  c : Cells W wb 31 [.int .i64 0, .slice none 0 0]
theorem Tn.quiet (h : Tn w0 W wb) (hk : Keeps Nowhere W w') : Tn w0 w' wb := ⟨h.k.trans hk, h.c.later hk (fun x => x)⟩
theorem Tn.hw (h : Aside (Tn w0 W wb)) : W.cell? ⟨wb, 0, none⟩ = some (.int .i64 0) ∧ W.cell? ⟨wb, 1, none⟩ = some (.slice none 0 0) := ⟨by rw [h.it.c.cell]; rfl, by rw [h.it.c.cell]; rfl⟩
theorem tn_ids (h : Aside (Tn w0 W wb)) : Calls Tryd.prog 29 #[.pointer none] W fun e w' => ∃ g cap, e = .returned (.slice (some ⟨g, 0, none⟩) 0 cap) ∧ Aside (RdU w' (.slice (some ⟨g, 0, none⟩) 0 cap) []) ∧ Aside (Tn w0 w' wb) := by
  refine (Tbstring.ids_nil W).mono ?_
  rintro e w' ⟨g, cap, rfl, _, R, K⟩
  exact ⟨g, cap, rfl, ⟨owns_rdU (l := []) R.it⟩, ⟨h.it.quiet K.it⟩⟩
theorem tn_idsp (h : Aside (Tn w0 W wb)) : Calls Tryd.prog 31 #[.pointer none] W fun e w' => ∃ g cap, e = .returned (.slice (some ⟨g, 0, none⟩) 0 cap) ∧ Aside (RdU w' (.slice (some ⟨g, 0, none⟩) 0 cap) []) ∧ Aside (Tn w0 w' wb) := by
  refine (Tbop.ids_nil W).mono ?_
  rintro e w' ⟨g, cap, rfl, _, R, K⟩
  exact ⟨g, cap, rfl, ⟨owns_rdU (l := []) R.it⟩, ⟨h.it.quiet K.it⟩⟩
theorem tn_dids (h : Aside (Tn w0 W wb)) {r : Value} {l : List Nat} (hr : Aside (RdU W r l)) : Calls Tryd.prog 30 #[.agg #[.int .i64 0, .slice none 0 0]] W fun e w' => ∃ v2, e = .returned v2 ∧ Aside (RdU w' v2 []) ∧ Aside (RdU w' r l) ∧ Aside (Tn w0 w' wb) := by
  refine (dids 0 (RdD.nil (fun _ => 0) W) (by decide)).mono ?_
  rintro e w' ⟨v2, rfl, R, K⟩
  exact ⟨v2, rfl, R, ⟨hr.it.quiet K.it⟩, ⟨h.it.quiet K.it⟩⟩
theorem tn_same (h : Aside (Tn w0 W wb)) {a c : Value} {l : List Nat} (ha : Aside (RdU W a l)) (hc : Aside (RdU W c l)) : Calls Tryd.prog 28 #[a, c] W fun e w' => e = .returned (.bool true) ∧ Aside (Tn w0 w' wb) := by
  refine (same_ids a c l ha.it hc.it).mono ?_
  rintro e w' ⟨rfl, K⟩
  exact ⟨rfl, ⟨h.it.quiet K.it⟩⟩

theorem ptr_neq (w : World) (a : Addr) : (binOp .neq 49 (.pointer (some a)) (.pointer (some a))).run Tryd.prog w = .ok (.bool false) w := by
  cases hi : Tryd.prog.info? 39 with
  | none => have := opinfo; rw [hi] at this; cases this
  | some i => exact Lib.run_neq_ptr_same w a Tryd.underlying49 hi
theorem itoa_ib (n : Int) (h0 : 0 ≤ n) (h1 : n ≤ 9223372036854775807) : ∃ ib : ByteArray, (⟨(Lib.itoa n).toArray⟩ : ByteArray) = ib ∧ sv n = ⟨#[118]⟩ ++ ib ∧ ib.size ≤ 21 := by
  have h := Lib.itoa_length_le n (by omega) h1
  exact ⟨_, rfl, rfl, by simpa [ByteArray.size] using h⟩
theorem txw_itoa (h : Aside (Tx A w0 own W pt pp a0 Ls Lp Ld v vb wb ob N B)) {n : Int} {ib : ByteArray} (hb : (⟨(Lib.itoa n).toArray⟩ : ByteArray) = ib) (h0 : 0 ≤ n) (h1 : n ≤ 9223372036854775807) : Calls Tryd.prog 20 #[.int .i64 n] W fun e w' => e = .returned (.string ib) ∧ Aside (Tx A w0 own w' pt pp a0 Ls Lp Ld v vb wb ob N B) := by
  subst hb
  exact tx_itoa h n h0 h1
theorem txw_put (h : Aside (Tx A w0 own W pt pp a0 Ls Lp Ld v vb wb ob N B)) (hid : id ≤ 4294967295) {x : Int} {t : ByteArray} (ht : sv x = t) {k : Int} (hk : Tbint.putC a0 Ls id = k) : Calls Tryd.prog 19 #[ptr pt, .int .u32 id, .string t] W fun e w' => ∃ ev, e = .returned ev ∧ Hid (Coded A ev k) ∧ Aside (Tx A w0 own w' pt pp a0 (Tbint.putL a0 Ls id x) Lp Ld v vb wb ob N B) := by
  subst ht
  exact tx_put h hid x hk
theorem txw_putp (h : Aside (Tx A w0 own W pt pp a0 Ls Lp Ld v vb wb ob N B)) (hid : id ≤ 4294967295) {x : Int} {q : Option Addr} (hq : pv ob x = q) {k : Int} (hk : Tbint.putC a0 Lp id = k) : Calls Tryd.prog 21 #[ptr pp, .int .u32 id, .pointer q] W fun e w' => ∃ ev, e = .returned ev ∧ Hid (Coded A ev k) ∧ Aside (Tx A w0 own w' pt pp a0 Ls (Tbint.putL a0 Lp id x) Ld v vb wb ob N B) := by
  subst hq
  exact tx_putp h hid x hk
theorem Tx.hb {nb bx : Nat} {r s0 s2 : Value} {cs : List Value} (h : Aside (Tx A w0 own W pt pp a0 Ls Lp Ld v vb wb ob N [(nb, 31, cs), (bx, 39, [s0, r, s2])])) : W.cell? ⟨bx, 1, none⟩ = some r := by
  rw [(h.it.b _ (List.mem_cons_of_mem _ List.mem_cons_self)).1.cell]; rfl
theorem Tx.hn {nb : Nat} {r s : Value} (h : Aside (Tx A w0 own W pt pp a0 Ls Lp Ld v vb wb ob N ((nb, 31, [r, s]) :: B))) : W.cell? ⟨nb, 0, none⟩ = some r ∧ W.cell? ⟨nb, 1, none⟩ = some s :=
  ⟨by rw [(h.it.b _ List.mem_cons_self).1.cell]; rfl, by rw [(h.it.b _ List.mem_cons_self).1.cell]; rfl⟩
theorem Tx.h39 {bx : Nat} {s0 s1 s2 : Value} (h : Aside (Tx A w0 own W pt pp a0 Ls Lp Ld v vb wb ob N [(bx, 39, [s0, s1, s2])])) : W.cell? ⟨bx, 0, none⟩ = some s0 ∧ W.cell? ⟨bx, 1, none⟩ = some s1 :=
  ⟨by rw [(h.it.b _ List.mem_cons_self).1.cell]; rfl, by rw [(h.it.b _ List.mem_cons_self).1.cell]; rfl⟩

set_option maxRecDepth 20000 in
set_option maxHeartbeats 8000000 in
theorem tableTexts_walk {A : Nat → Addr} (a0 : Int) (s : Value) (zs : List OpV15) (w : World) (hs : Sents 148 codeVars A w ∧ PowT w) (hz : Ops15Arg w s zs) :
    Calls Tryd.prog 4 #[.int .i64 a0, s] w fun e w' => e = .returned (.bool true) ∧ Below w.heap.size w w' := by
  obtain ⟨hz, hz24⟩ := hz
  have HZ := Aside.mk hz
  obtain ⟨a, c, rfl, hzc, hcm, _⟩ := hz
  obtain ⟨N, hN⟩ : ∃ N, zs.length = N := ⟨_, rfl⟩
  have HN := Aside.mk hN
  rw [hN] at hzc hz24 ⊢
  have WK := Aside.mk (wakes15 hs.1)
  have HS := Aside.mk hs
  have hNm : (N : Int) ≤ 9223372036854775807 := by omega
  clear hs hN
  go_enter Tryd.func4, Tryd.ntmps4
  go_upto_region 3 with (go_at_call 9; refine WK.it.mono ?_; rintro e w1 ⟨rfl, K1⟩)
  clear WK
  have S1 := Aside.mk (HS.it.1.later K1.it.bel)
  have PW1 := Aside.mk (powT_later HS.it.2 K1.it.bel)
  by_cases h0 : a0 < 0
  · have NO := Aside.mk (Tbstring.new_no a0 h0 w1 S1.it)
    go_upto_region 4 with (go_at_call 16; refine NO.it.mono ?_; rintro e w2 ⟨rfl, K2⟩)
    have NP := Aside.mk (Tbop.new_no a0 h0 w2 (S1.it.later K2.it.bel))
    go_upto_region 5 with (go_at_call 17; refine NP.it.mono ?_; rintro e w3 ⟨rfl, K3⟩)
    have DN := Aside.mk (dnew a0 w3)
    rw [if_pos h0, if_pos h0] at DN
    go_upto_region 6 with (go_at_call 11; refine DN.it.mono ?_; rintro e w4 ⟨rfl, K4⟩)
    have KA := Aside.mk ((K2.it.trans K3.it).trans (K4.it.alloc (.cells #[.int .i64 0, .slice none 0 0] 31)))
    have S5 := Aside.mk (S1.it.later KA.it.bel)
    have T5 : Aside (Tn w1 (w4.alloc (.cells #[.int .i64 0, .slice none 0 0] 31)) w4.heap.size) := ⟨⟨KA.it, Cells.new w4 _ _⟩⟩
    have CD := Aside.mk (code_of S5.it (Coded.mk 1 2 (by decide) (by decide) rfl))
    obtain ⟨wb, hwb⟩ : ∃ wb, w4.heap.size = wb := ⟨_, rfl⟩
    rw [hwb] at T5 ⊢
    generalize (w4.alloc (.cells #[.int .i64 0, .slice none 0 0] 31)) = W5 at T5 CD S5 KA ⊢
    clear hwb NO NP DN S5 KA
    go_upto_region 8 with (go_at_call 12; refine CD.it.mono ?_; rintro e w6 ⟨rfl, hw6⟩; subst hw6)
    obtain ⟨w7, cs, MK, X7⟩ := make_ops w6 N hz24
    have T7 := Aside.mk (T5.it.quiet X7.it.2.2)
    generalize w6.heap.size = ob at MK X7
    clear T5 CD
    go_upto_region 10 with (at_make; refine wpList_makeK rfl _ _ _ rfl N rfl rfl _ _ MK.it ?_)
    clear MK X7
    go_loopw [12] (fun v wr => v = .int .i64 0 ∧ wr = w7) (fun _ _ => 0)
    case atStart => exact ⟨rfl, rfl⟩
    case round =>
      obtain ⟨rfl, rfl⟩ := hrel
      have KB := Aside.mk K1.it
      go_upto_region 10 with fail
      go_cut [59] from 52 to 226 (fun v wx => v = .bool false ∧ wx = wr)
      case first =>
        rcases Nat.eq_zero_or_pos N with rfl | hp
        · go_wp2_with fail
          go_meet
          case rel => exact ⟨rfl, rfl⟩
        · have hd : decide ((0 : Int) < N) = true := decide_eq_true (by omega)
          have hp' : (0 : Int) < N := by omega
          go_wp2_with fail
          go_meet
          case rel => exact ⟨rfl, rfl⟩
      case rest =>
      obtain ⟨rfl, rfl⟩ := hcut
      have Td := Aside.mk (T7.it.quiet (Keeps.refl _ _).drew)
      clear T7
      go_upto_region 30 with fail
      go_region_held3 (fun w' => w'.cell? ⟨wb, 0, none⟩ = some (.int .i64 0) ∧ w'.cell? ⟨wb, 1, none⟩ = some (.slice none 0 0)) (with_reducible exact Tn.hw (by with_reducible assumption)) (first
        | (go_at_call 29; with_reducible refine (tn_ids (by with_reducible assumption)).mono ?_; rintro e w8 ⟨g8, c8, rfl, R8, T8⟩)
        | (go_at_call 31; with_reducible refine (tn_idsp (by with_reducible assumption)).mono ?_; rintro e w9 ⟨g9, c9, rfl, R9, T9⟩)
        | (go_at_call 30; first
            | (with_reducible refine (tn_dids T8 R8).mono ?_; rintro e w10 ⟨v10, rfl, R10, R10', T10⟩)
            | (with_reducible refine (tn_dids T9 R9).mono ?_; rintro e w11 ⟨v11, rfl, R11, R11', T11⟩))
        | (go_at_call 28; first
            | (with_reducible refine (tn_same T11 R11' R11).mono ?_; rintro e w13 ⟨rfl, T13⟩)
            | (with_reducible refine (tn_same T10 R10' R10).mono ?_; rintro e w12 ⟨rfl, T12⟩))
        | fail)
      all_goals
        go_wp2_with fail
        go_ret
        exact ⟨rfl, (KB.it.trans T13.it.k).bel⟩
  · have h0' : 0 ≤ a0 := by omega
    have NW := Aside.mk (Tbstring.new_ok a0 h0' w1 (fun _ => 0) 1)
    go_upto_region 4 with (go_at_call 16; refine NW.it.mono ?_; rintro e w2 ⟨pt, own2, rfl, X2⟩)
    have NP := Aside.mk (Tbop.new_ok a0 h0' w2 own2 2)
    go_upto_region 5 with (go_at_call 17; refine NP.it.mono ?_; rintro e w3 ⟨pp, own3, rfl, X3⟩)
    have DN := Aside.mk (dnew a0 w3)
    have hneg : ¬ a0 < 0 := by omega
    rw [if_neg hneg, if_neg hneg] at DN
    clear hneg
    go_upto_region 6 with (go_at_call 11; refine DN.it.mono ?_; rintro e w4 ⟨rfl, K4⟩)
    have CD := Aside.mk (code_nil (w4.alloc (.cells #[.int .i64 a0, .slice none 0 0] 31)))
    go_upto_region 8 with (go_at_call 12; refine CD.it.mono ?_; rintro e w6 ⟨rfl, hw6⟩; subst hw6)
    obtain ⟨w7, cs, MK, X7⟩ := make_ops (w4.alloc (.cells #[.int .i64 a0, .slice none 0 0] 31)) N hz24
    have P7 : Aside (Tx A w1 (give (give own3 w3.heap.size 8) (w4.alloc (.cells #[.int .i64 a0, .slice none 0 0] 31)).heap.size 7) w7 pt pp a0 [] [] [] (.slice none 0 0) (.slice none 0 0) w4.heap.size (w4.alloc (.cells #[.int .i64 a0, .slice none 0 0] 31)).heap.size N []) := by
      have G2 := (OnG.start S1.it).sn X2.it.2.2 (fun x => x)
      have G3 := G2.sn X3.it.2.2 (fun x => x)
      have T3 := X2.it.1.sn X3.it.2.2 (fun x => x)
      have s8 : Sn (fun _ => False) own3 w3 (give own3 w3.heap.size 8) (w4.alloc (.cells #[.int .i64 a0, .slice none 0 0] 31)) := Sn.quiet (K4.it.alloc _) 8
      have s7 : Sn (fun _ => False) (give own3 w3.heap.size 8) (w4.alloc (.cells #[.int .i64 a0, .slice none 0 0] 31)) (give (give own3 w3.heap.size 8) (w4.alloc (.cells #[.int .i64 a0, .slice none 0 0] 31)).heap.size 7) w7 := Sn.quiet X7.it.2.2 7
      have c8 : CellsO (give own3 w3.heap.size 8) 8 (w4.alloc (.cells #[.int .i64 a0, .slice none 0 0] 31)) w4.heap.size 31 [.int .i64 a0, .slice none 0 0] := ⟨Cells.new w4 _ _, give_new K4.it.size⟩
      exact ⟨⟨(G3.sn s8 (fun x => x)).sn s7 (fun x => x), PW1.it, (T3.sn s8 (fun x => x)).sn s7 (fun x => x), (X3.it.1.sn s8 (fun x => x)).sn s7 (fun x => x), RdD.nil _ _, c8.sn s7 (fun x => x), ⟨cs, X7.it.1, X7.it.2.1, give_new (Nat.le_refl _)⟩, fun x hx => by cases hx⟩⟩
    generalize (give (give own3 w3.heap.size 8) (w4.alloc (.cells #[.int .i64 a0, .slice none 0 0] 31)).heap.size 7) = own7 at P7
    obtain ⟨wb, hwb⟩ : ∃ wb, w4.heap.size = wb := ⟨_, rfl⟩
    obtain ⟨ob, hob⟩ : ∃ ob, (w4.alloc (.cells #[.int .i64 a0, .slice none 0 0] 31)).heap.size = ob := ⟨_, rfl⟩
    rw [hob] at P7 MK
    rw [hwb] at P7 ⊢
    generalize (w4.alloc (.cells #[.int .i64 a0, .slice none 0 0] 31)) = W5 at MK ⊢
    clear hwb hob NW NP DN CD X7 X2 X3
    go_upto_region 10 with (at_make; refine wpList_makeK rfl _ _ _ rfl N rfl rfl _ _ MK.it ?_)
    clear MK
    go_loopw [12, 13, 14, 15, 16, 17, 18, 19, 20, 21] (fun v _ _ _ _ _ _ _ _ _ wr => ∃ (j : Nat) (L : Tl Int) (vv : Value) (own : Nat → Nat), v = .int .i64 j ∧ j ≤ N ∧ Aside (Tx A w1 own wr pt pp a0 L L L vv vv wb ob N []) ∧ Aside (∀ x ∈ L, 0 ≤ x.2 ∧ x.2 < ((j : Nat) : Int))) (fun v _ _ _ _ _ _ _ _ _ _ => N - natOf v)
    case atStart => exact ⟨0, [], _, own7, rfl, Nat.zero_le _, P7, ⟨fun x hx => by cases hx⟩⟩
    case round =>
      clear P7
      obtain ⟨j, L, vv, own, rfl, hj, P, HB⟩ := hrel
      obtain ⟨va, vc, hvv, hvl⟩ := P.it.d.shape
      subst hvv
      have LU : L.length ≤ 4294967296 := by have := up_len P.it.ts.up; rwa [len_tmap] at this
      rcases Nat.eq_or_lt_of_le hj with rfl | hlt
      · have KB := Aside.mk K1.it
        obtain ⟨nl, hnl⟩ : ∃ nl, L.length = nl := ⟨_, rfl⟩
        have HNL := Aside.mk hnl
        rw [hnl] at P hvl
        clear hnl
        have Pd := Aside.mk (P.it.quiet (Keeps.refl _ _).drew)
        clear P
        go_upto_region 30 with fail
        go_region_held3 (fun w' => w'.cell? ⟨wb, 0, none⟩ = some (.int .i64 a0) ∧ w'.cell? ⟨wb, 1, none⟩ = some (.slice va nl vc)) (with_reducible exact Tx.hw (by with_reducible assumption)) (first
          | (go_at_call 29; with_reducible refine (tx_ids (by with_reducible assumption)).mono ?_; rintro e w8 ⟨g8, c8, rfl, R8, T8⟩)
          | (go_at_call 31; with_reducible refine (tx_idsp (by with_reducible assumption)).mono ?_; rintro e w9 ⟨g9, c9, rfl, R9, T9⟩)
          | (go_at_call 30; first
              | (with_reducible refine (tx_dids T8 R8 LU).mono ?_; rintro e w10 ⟨v10, rfl, R10, R10', T10⟩)
              | (with_reducible refine (tx_dids T9 R9 LU).mono ?_; rintro e w11 ⟨v11, rfl, R11, R11', T11⟩))
          | (go_at_call 28; first
              | (with_reducible refine (tx_same T11 R11' R11).mono ?_; rintro e w13 ⟨rfl, T13⟩)
              | (with_reducible refine (tx_same T10 R10' R10).mono ?_; rintro e w12 ⟨rfl, T12⟩))
          | fail)
        all_goals
          go_wp2_with fail
          go_ret
          exact ⟨rfl, (KB.it.trans T13.it.bel).bel⟩
      · obtain ⟨z, hz⟩ : ∃ z, zs[j]? = some z := ⟨_, List.getElem?_eq_getElem (by rw [HN.it]; exact hlt)⟩
        have hzw := HZ.it
        rw [HN.it] at hzw
        obtain ⟨b, o, rfl, x0, x1, x2, hid⟩ := op_cells (by rw [HN.it]; exact hzw) hz
        obtain ⟨kd, id, x⟩ := z
        simp only at x0 x1 x2 hid
        have OQ : Aside (OpAt w1 b (o + j * 3) kd id x) := ⟨OpAt.later ⟨World.block_lt_of_cell? w _ x0, x0, x1, x2⟩ K1.it⟩
        clear hz hzw x0 x1 x2
        have hltI : decide ((j : Int) < N) = true := decide_eq_true (by omega)
        obtain ⟨y0, y1, y2⟩ := (OQ.it.later P.it.bel).2
        obtain ⟨⟨r0, c0⟩, f0⟩ := P.it.row (k := j * 3) (by omega)
        obtain ⟨⟨r1, c1⟩, f1⟩ := P.it.row (k := j * 3 + 1) (by omega)
        obtain ⟨⟨r2, c2⟩, f2⟩ := P.it.row (k := j * 3 + 2) (by omega)
        generalize L.length = nl at P
        go_upto_region 13 with fail
        have P1 := Aside.mk (((P.it.own1 (j * 3) (.int .i64 kd)).own1 (j * 3 + 1) (.int .u32 (id : Nat))).own1 (j * 3 + 2) (.int .i64 x))
        generalize (((wr.setCell ⟨ob, j * 3, none⟩ (.int .i64 kd)).setCell ⟨ob, j * 3 + 1, none⟩ (.int .u32 (id : Nat))).setCell ⟨ob, j * 3 + 2, none⟩ (.int .i64 x)) = W1 at P1 ⊢
        clear y0 y1 y2 c0 c1 c2 f0 f1 f2 P
        obtain ⟨y0, y1, y2⟩ := (OQ.it.later P1.it.bel).2
        go_upto_region 14 with fail
        have P2 : Aside (Tx A w1 (give own W1.heap.size 6) (W1.alloc (.cells #[.int .i64 kd, .int .u32 (id : Nat), .int .i64 x] 39)) pt pp a0 L L L (.slice va nl vc) (.slice va nl vc) wb ob N [(W1.heap.size, 39, [.int .i64 kd, .int .u32 (id : Nat), .int .i64 x])]) := ⟨P1.it.box 39 [.int .i64 kd, .int .u32 (id : Nat), .int .i64 x]⟩
        generalize give own W1.heap.size 6 = own2' at P2
        obtain ⟨bx, hbx⟩ : ∃ bx, W1.heap.size = bx := ⟨_, rfl⟩
        rw [hbx] at P2 ⊢
        clear y0 y1 y2 P1 hbx
        generalize (W1.alloc (.cells #[.int .i64 kd, .int .u32 (id : Nat), .int .i64 x] 39)) = W2 at P2 ⊢
        obtain ⟨b0, b1⟩ := Tx.h39 P2
        obtain ⟨c0, c1, f0, f1⟩ := P2.it.cells
        have hj63 : (j : Int) ≤ 9223372036854775807 := by omega
        by_cases hk1 : kd = 1
        · subst hk1
          have DP := Aside.mk (tx_dput (id := id) P2 (j : Int) LU)
          obtain ⟨kc, hkc⟩ : ∃ kc, Tbint.putC a0 L id = kc := ⟨_, rfl⟩
          rw [hkc] at DP
          obtain ⟨ib, hib, hsv, hsz⟩ := itoa_ib (j : Int) (by omega) hj63
          have hpv : pv ob (j : Int) = some ⟨ob, j * 3, none⟩ := by simp [pv]
          have hj0 : (0 : Int) ≤ j := by omega
          have ekk : (kc != kc) = false := by simp
          have hsz' : ¬ 9223372036854775807 < 1 + ib.size := by omega
          go_upto_region 16 with (go_at_call 18; refine DP.it.mono ?_; rintro e w6 ⟨qa, ql, qc, own6, rfl, P6⟩)
          have P7 : Aside (Tx A w1 (give own6 w6.heap.size 6) (w6.alloc (.cells #[.int .i64 a0, .slice qa ql qc] 31)) pt pp a0 L L (Tbint.putL a0 L id j) (.slice qa ql qc) (.slice va nl vc) wb ob N [(w6.heap.size, 31, [.int .i64 a0, .slice qa ql qc]), (bx, 39, [.int .i64 1, .int .u32 (id : Nat), .int .i64 x])]) := ⟨P6.it.box 31 [.int .i64 a0, .slice qa ql qc]⟩
          generalize give own6 w6.heap.size 6 = own7' at P7
          obtain ⟨nb, hnb⟩ : ∃ nb, w6.heap.size = nb := ⟨_, rfl⟩
          rw [hnb] at P7 ⊢
          clear b0 b1 c0 c1 f0 f1 P6 P2 DP hnb
          generalize (w6.alloc (.cells #[.int .i64 a0, .slice qa ql qc] 31)) = W7 at P7 ⊢
          have P7d := Aside.mk (P7.it.quiet (Keeps.refl _ _).drew)
          clear P7
          have HC := Aside.mk hkc
          have HI := Aside.mk hib
          have HV := Aside.mk hsv
          have HP := Aside.mk hpv
          clear hkc hib hsv hpv
          go_region_held3 (fun w' => w'.cell? ⟨bx, 1, none⟩ = some (.int .u32 (id : Nat))) (with_reducible exact Tx.hb (by with_reducible assumption)) (first
            | (go_at_call 20; refine (txw_itoa P7d HI.it hj0 hj63).mono ?_; rintro e w8 ⟨rfl, T8⟩)
            | (go_at_call 19; refine (txw_put T8 hid HV.it HC.it).mono ?_; rintro e w9 ⟨ev9, rfl, C9, T9⟩)
            | (go_at_call 21; refine (txw_putp T10 hid HP.it HC.it).mono ?_; rintro e w11 ⟨ev11, rfl, C11, T11⟩)
            | (go_at_call 12; first
                | (refine (tx_code T11 C11).mono ?_; rintro e w12 ⟨rfl, T12⟩)
                | (refine (tx_code T9 C9).mono ?_; rintro e w10 ⟨rfl, T10⟩))
            | fail)
          all_goals
            obtain ⟨n0, n1⟩ := Tx.hn T12
            obtain ⟨c0, c1, f0, f1⟩ := T12.it.cells
            go_wp2_with fail
            go_roundw
            case rel => exact ⟨j + 1, Tbint.putL a0 L id j, _, own7', by go_num, by omega, ⟨(T12.it.write (.slice qa ql qc)).drop⟩, ⟨putL_lt ⟨by omega, by omega⟩ HB.it⟩⟩
            case measure => simp [natOf]; omega
        · have hk1' : (kd == 1) = false := by simpa using hk1
          have hn : (∃ m : Nat, m < N ∧ tlook L id = some (m : Int)) ∨ tlook L id = none := by
            cases hl : tlook L id with
            | none => exact .inr rfl
            | some n =>
              have := HB.it _ (tlook_some hl)
              exact .inl ⟨n.toNat, by omega, by congr 1; omega⟩
          rcases hn with ⟨m, hmN, ho⟩ | ho
          · obtain ⟨ib, hib, hsv, hsz⟩ := itoa_ib (m : Int) (by omega) (by omega)
            have hm0 : (0 : Int) ≤ m := by omega
            have hm63 : (m : Int) ≤ 9223372036854775807 := by omega
            have gs : Tbstring.gotV ((some (m : Int)).map sv) = .string (⟨#[118]⟩ ++ ib) := by show Value.string (sv m) = _; rw [hsv]
            have gp : Tbop.gotV ((some (m : Int)).map (pv ob)) = .pointer (some ⟨ob, m * 3, none⟩) := by show Value.pointer (pv ob m) = _; simp [pv]
            have hsz' : ¬ 9223372036854775807 < 1 + ib.size := by omega
            have HI := Aside.mk hib
            have HO := Aside.mk ho
            have HGS := Aside.mk gs
            have HGP := Aside.mk gp
            clear gs gp hib hsv ho
            have DG := Aside.mk (tx_dget P2 LU HO.it)
            simp only [Option.getD_some, Option.isSome_some] at DG
            go_upto_region 20 with (go_at_call 22; refine DG.it.mono ?_; rintro e w3 ⟨rfl, P3⟩)
            have DS := Aside.mk (tx_get P3 hid HO.it)
            rw [HGS.it] at DS
            simp only [Option.isSome_some] at DS
            obtain ⟨d0, d1⟩ := Tx.h39 P3
            clear b0 b1 c0 c1 f0 f1 P2 DG
            go_upto_region 21 with (go_at_call 23; refine DS.it.mono ?_; rintro e w4 ⟨rfl, P4⟩)
            have DQ := Aside.mk (tx_getp P4 hid HO.it)
            rw [HGP.it] at DQ
            simp only [Option.isSome_some] at DQ
            clear d0 d1 P3 DS
            obtain ⟨d0, d1⟩ := Tx.h39 P4
            go_upto_region 22 with (go_at_call 24; refine DQ.it.mono ?_; rintro e w5 ⟨rfl, P5⟩)
            clear d0 d1 P4 DQ
            have DI := Aside.mk (txw_itoa P5 HI.it hm0 hm63)
            have pn : ∀ W, (binOp .neq 49 (.pointer (some ⟨ob, m * 3, none⟩)) (.pointer (some ⟨ob, m * 3, none⟩))).run Tryd.prog W = .ok (.bool false) W := fun W => ptr_neq W _
            go_upto_region 24 with (go_at_call 20; refine DI.it.mono ?_; rintro e w6 ⟨rfl, P6⟩)
            clear DI P5
            obtain ⟨d0, d1⟩ := Tx.h39 P6
            by_cases hk3 : kd = 3
            · subst hk3
              obtain ⟨c0, c1, f0, f1⟩ := P6.it.cells
              have DD := Aside.mk (tx_ddrop (id := id) P6 LU)
              go_upto_region 26 with (go_at_call 25; refine DD.it.mono ?_; rintro e w7 ⟨qa, ql, qc, own8, yy, zz, rfl, P7⟩; obtain ⟨e0, e1, g0, g1⟩ := P7.it.cells)
              have P8 := Aside.mk (P7.it.write (.slice qa ql qc))
              clear d0 d1 c0 c1 f0 f1 P6 DD e0 e1 g0 g1 P7
              generalize ((w7.setCell ⟨wb, 0, none⟩ (.int .i64 a0)).setCell ⟨wb, 1, none⟩ (.slice qa ql qc)) = W8 at P8 ⊢
              obtain ⟨d0, d1⟩ := Tx.h39 P8
              have DS := Aside.mk (tx_drop P8 hid HO.it)
              rw [HGS.it] at DS
              simp only [Option.isSome_some] at DS
              go_upto_region 27 with (go_at_call 26; refine DS.it.mono ?_; rintro e w9 ⟨rfl, P9⟩)
              clear d0 d1 P8 DS
              obtain ⟨d0, d1⟩ := Tx.h39 P9
              have DQ := Aside.mk (tx_dropp P9 hid HO.it)
              rw [HGP.it] at DQ
              simp only [Option.isSome_some] at DQ
              go_upto_region 28 with (go_at_call 27; refine DQ.it.mono ?_; rintro e w10 ⟨rfl, P10⟩)
              clear d0 d1 P9 DQ
              have DI := Aside.mk (txw_itoa P10 HI.it hm0 hm63)
              go_wp2_with (go_at_call 20; refine DI.it.mono ?_; rintro e w11 ⟨rfl, P11⟩)
              go_roundw
              case rel => exact ⟨j + 1, tdel L id, _, own8, by go_num, by omega, ⟨P11.it.drop⟩, ⟨fun y hy => by have := HB.it y (List.mem_filter.1 hy).1; omega⟩⟩
              case measure => simp [natOf]; omega
            · have hk3' : (kd == 3) = false := by simpa using hk3
              go_wp2_with fail
              go_roundw
              case rel => exact ⟨j + 1, L, _, own2', by go_num, by omega, ⟨P6.it.drop⟩, ⟨fun y hy => by have := HB.it y hy; omega⟩⟩
              case measure => simp [natOf]; omega
          · have gs : Tbstring.gotV ((none : Option Int).map sv) = .string ⟨#[]⟩ := rfl
            have gp : Tbop.gotV ((none : Option Int).map (pv ob)) = .pointer none := rfl
            have HO := Aside.mk ho
            have HGS := Aside.mk gs
            have HGP := Aside.mk gp
            clear gs gp ho
            have DG := Aside.mk (tx_dget P2 LU HO.it)
            simp only [Option.getD_none, Option.isSome_none] at DG
            go_upto_region 20 with (go_at_call 22; refine DG.it.mono ?_; rintro e w3 ⟨rfl, P3⟩)
            have DS := Aside.mk (tx_get P3 hid HO.it)
            rw [HGS.it] at DS
            simp only [Option.isSome_none] at DS
            obtain ⟨d0, d1⟩ := Tx.h39 P3
            clear b0 b1 c0 c1 f0 f1 P2 DG
            go_upto_region 21 with (go_at_call 23; refine DS.it.mono ?_; rintro e w4 ⟨rfl, P4⟩)
            have DQ := Aside.mk (tx_getp P4 hid HO.it)
            rw [HGP.it] at DQ
            simp only [Option.isSome_none] at DQ
            clear d0 d1 P3 DS
            obtain ⟨d0, d1⟩ := Tx.h39 P4
            go_upto_region 22 with (go_at_call 24; refine DQ.it.mono ?_; rintro e w5 ⟨rfl, P5⟩)
            clear d0 d1 P4 DQ
            go_upto_region 24 with fail
            obtain ⟨d0, d1⟩ := Tx.h39 P5
            by_cases hk3 : kd = 3
            · subst hk3
              obtain ⟨c0, c1, f0, f1⟩ := P5.it.cells
              have DD := Aside.mk (tx_ddrop (id := id) P5 LU)
              go_upto_region 26 with (go_at_call 25; refine DD.it.mono ?_; rintro e w7 ⟨qa, ql, qc, own8, yy, zz, rfl, P7⟩; obtain ⟨e0, e1, g0, g1⟩ := P7.it.cells)
              have P8 := Aside.mk (P7.it.write (.slice qa ql qc))
              clear d0 d1 c0 c1 f0 f1 P5 DD e0 e1 g0 g1 P7
              generalize ((w7.setCell ⟨wb, 0, none⟩ (.int .i64 a0)).setCell ⟨wb, 1, none⟩ (.slice qa ql qc)) = W8 at P8 ⊢
              obtain ⟨d0, d1⟩ := Tx.h39 P8
              have DS := Aside.mk (tx_drop P8 hid HO.it)
              rw [HGS.it] at DS
              simp only [Option.isSome_none] at DS
              go_upto_region 27 with (go_at_call 26; refine DS.it.mono ?_; rintro e w9 ⟨rfl, P9⟩)
              clear d0 d1 P8 DS
              obtain ⟨d0, d1⟩ := Tx.h39 P9
              have DQ := Aside.mk (tx_dropp P9 hid HO.it)
              rw [HGP.it] at DQ
              simp only [Option.isSome_none] at DQ
              go_upto_region 28 with (go_at_call 27; refine DQ.it.mono ?_; rintro e w10 ⟨rfl, P10⟩)
              clear d0 d1 P9 DQ
              go_wp2_with fail
              go_roundw
              case rel => exact ⟨j + 1, tdel L id, _, own8, by go_num, by omega, ⟨P10.it.drop⟩, ⟨fun y hy => by have := HB.it y (List.mem_filter.1 hy).1; omega⟩⟩
              case measure => simp [natOf]; omega
            · have hk3' : (kd == 3) = false := by simpa using hk3
              go_wp2_with fail
              go_roundw
              case rel => exact ⟨j + 1, L, _, own2', by go_num, by omega, ⟨P5.it.drop⟩, ⟨fun y hy => by have := HB.it y hy; omega⟩⟩
              case measure => simp [natOf]; omega
end Go.Proofs.YtbdnggkfpkfcoaaDoor

