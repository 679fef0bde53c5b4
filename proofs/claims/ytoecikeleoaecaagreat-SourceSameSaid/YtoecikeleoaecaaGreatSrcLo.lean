/- A source in memory, piece by piece. -/
import Derived.Test.YtoecikeleoaecaaGreatStPlain
import Derived.Test.YtoecikeleoaecaaGreatClock1
import Derived.Test.YtoecikeleoaecaaGreatAtTen
import Derived.Test.YtoecikeleoaecaaGreatKGen
import Derived.Test.YtoecikeleoaecaaGreatKMerge
import Derived.Test.YtoecikeleoaecaaGreatKAlign
import Derived.Test.YtoecikeleoaecaaGreatKCur
import Derived.Test.YtoecikeleoaecaaGreatKEvV
namespace Go.Proofs.YtoecikeleoaecaaGreat
set_option maxRecDepth 4000
open Go.ChangeShapes Go.WideShapes Go.ChangeAt Go.RowKit
open PHist PRing PSat PClamp PBound PFrame PVar PCrc PSign PTree PEv
set_option linter.unusedVariables false
set_option linter.unusedSimpArgs false

/-- What is kept of n partitions, of m that there will be: rules, records, why no more; how many were read, which came to the way, what each is, by when; the merge's marks and what it was told, the align's; .. -/
structure Lo where
  n : Nat
  m : Nat
  timeout : Int
  drift : Int
  ru : Nat → Rul
  re : Nat → List R
  er : Nat → Nat
  rd : Nat → Nat
  gt : Nat → List R
  is : Nat → Int
  tl : Nat → Int
  K : Nat → Int
  S : Nat → Int
  L : Nat → Int
  clock : Int
  now : Int
  G : Int
  evs : List Ev
  beg : Nat
/-- Where it lies. -/
structure SrcV where
  pv : Value
  cu : Nat → Nat
  ty : Nat → TypeId
  wy : Nat → Nat
  st : Nat → Nat
  lg : Nat → ByteArray
  gm : Nat
  F : Nat → Prop
  ga : Nat
  gl : Nat
def ptc (V : SrcV) (j : Nat) : List Value := [.pointer (some ⟨V.cu j, 0, none⟩), .iface (V.ty j) (.pointer (some ⟨V.wy j, 0, none⟩)), .pointer (some ⟨V.st j, 0, none⟩)]
def ptv (V : SrcV) : Nat → List Value
  | 0 => []
  | k + 1 => ptv V k ++ ptc V k
theorem ptv_len (V : SrcV) : ∀ k, (ptv V k).length = k * 3
  | 0 => rfl
  | k + 1 => by
    show (ptv V k ++ ptc V k).length = _
    rw [List.length_append, ptv_len V k, Nat.succ_mul]; rfl
theorem ptv_at (V : SrcV) : ∀ k j q, j < k → q < 3 → (ptv V k)[j * 3 + q]? = (ptc V j)[q]?
  | k + 1, j, q, hj, hq => by
    show (ptv V k ++ ptc V k)[j * 3 + q]? = _
    by_cases e : j < k
    · rw [List.getElem?_append_left (by rw [ptv_len]; omega)]
      exact ptv_at V k j q e hq
    · obtain rfl : j = k := by omega
      rw [List.getElem?_append_right (by rw [ptv_len]; omega), ptv_len]
      congr 1; omega
theorem ptv_congr {V V' : SrcV} : ∀ k, (∀ j, j < k → ptc V j = ptc V' j) → ptv V k = ptv V' k
  | 0, _ => rfl
  | k + 1, h => by
    show ptv V k ++ ptc V k = ptv V' k ++ ptc V' k
    rw [ptv_congr k (fun j hj => h j (by omega)), h k (by omega)]
theorem ptv_one (V : SrcV) : ∀ k, ∀ u ∈ ptv V k, u.oneCell' = true
  | k + 1, u, hu => by
    rcases List.mem_append.1 hu with h | h
    · exact ptv_one V k u h
    · simp only [ptc, List.mem_cons, List.not_mem_nil, or_false] at h
      rcases h with rfl | rfl | rfl <;> rfl

/-- A cursor ahead of the rest of these records, k of them behind it. -/
def CurAt (w : World) (g : Nat) (s : ByteArray) (recs : List R) (err k : Nat) : Prop :=
  ∃ q v, CurC w g s q k ∧ q ≤ s.size ∧ s.size ≤ 400 ∧ parse (s.data.toList.drop q) = (recs.drop k, v, err)
theorem CurAt.upd {X : Nat → Prop} {w w' : World} {g : Nat} {s : ByteArray} {recs : List R} {err k : Nat} (h : CurAt w g s recs err k) (hu : Upd X w w') (hn : ¬ X g) : CurAt w' g s recs err k := by
  obtain ⟨q, v, h1, h2⟩ := h
  exact ⟨q, v, h1.upd hu hn, h2⟩
theorem CurAt.lt {w : World} {g : Nat} {s : ByteArray} {recs : List R} {err k : Nat} (h : CurAt w g s recs err k) : g < w.heap.size := by
  obtain ⟨q, v, h1, h2⟩ := h
  exact h1.lt

/-- Block g is a source: what it keeps is x, where it lies V, its ways' blocks W, its events' row ev; each block's tag says whose it is, 0: none of the source's. -/
structure SrcC (w : World) (tag : Nat → Nat) (W : Nat → Nat → Prop) (ev : Value) (V : SrcV) (g : Nat) (x : Lo) : Prop where
  blk : At w g [V.pv, .int .i64 x.clock, .pointer (some ⟨V.gm, 0, none⟩), .pointer (some ⟨V.ga, 0, none⟩), ev, .int .i64 x.beg]
  row : Sl 0 w 3 V.pv x.n (ptv V x.n)
  mer : MergeC w V.F V.gm x.m x.K (oa x.S 0) (oa x.S 1) x.now
  ali : AlignC w V.ga V.gl x.m x.drift x.G x.L
  evr : Sl 0 w 1 ev x.evs.length (x.evs.map evv)
  cur : ∀ j, j < x.n → CurAt w (V.cu j) (V.lg j) (x.re j) (x.er j) (x.rd j)
  way : ∀ j, j < x.n → GenC w (W j) (V.ty j) (V.wy j) (x.ru j) (x.gt j)
  sta : ∀ j, j < x.n → IdleC w (V.st j) (x.is j) x.timeout (x.tl j)
  t1 : tag g = 1
  t2 : ∀ b, V.pv.ownBlock = some b → tag b = 2
  t3 : ∀ b, V.F b → tag b = 3
  t4 : tag V.ga = 4 ∧ tag V.gl = 4
  t5 : ∀ b, ev.ownBlock = some b → tag b = 5
  t6 : ∀ j, j < x.n → tag (V.cu j) = 3 * j + 6
  t7 : ∀ j, j < x.n → ∀ b, W j b → tag b = 3 * j + 7
  t8 : ∀ j, j < x.n → tag (V.st j) = 3 * j + 8

section
variable {w w' : World} {tag : Nat → Nat} {W : Nat → Nat → Prop} {ev : Value} {V : SrcV} {g : Nat} {x : Lo} {X : Nat → Prop} {t : Nat}
theorem SrcC.k1 (h : SrcC w tag W ev V g x) (hu : Upd X w w') (hX : ∀ b, b < w.heap.size → X b → tag b = t) (ht : t ≠ 1) : At w' g [V.pv, .int .i64 x.clock, .pointer (some ⟨V.gm, 0, none⟩), .pointer (some ⟨V.ga, 0, none⟩), ev, .int .i64 x.beg] :=
  h.blk.upd hu (fun e => by have := hX g h.blk.1 e; have := h.t1; omega)
theorem SrcC.k2 (h : SrcC w tag W ev V g x) (hu : Upd X w w') (hX : ∀ b, b < w.heap.size → X b → tag b = t) (ht : t ≠ 2) : Sl 0 w' 3 V.pv x.n (ptv V x.n) :=
  h.row.upd hu (fun b hb e => by have := hX b (h.row.lt b hb).2 e; have := h.t2 b hb; omega)
theorem SrcC.k3 (h : SrcC w tag W ev V g x) (hu : Upd X w w') (hX : ∀ b, b < w.heap.size → X b → tag b = t) (ht : t ≠ 3) : MergeC w' V.F V.gm x.m x.K (oa x.S 0) (oa x.S 1) x.now :=
  h.mer.upd hu (fun b hb e => by have := hX b (h.mer.lt b hb) e; have := h.t3 b hb; omega)
theorem SrcC.k4 (h : SrcC w tag W ev V g x) (hu : Upd X w w') (hX : ∀ b, b < w.heap.size → X b → tag b = t) (ht : t ≠ 4) : AlignC w' V.ga V.gl x.m x.drift x.G x.L :=
  h.ali.upd hu (fun e => by have := hX _ h.ali.at_.1 e; have := h.t4.1; omega) (fun e => by have := hX _ h.ali.ls.lt e; have := h.t4.2; omega)
theorem SrcC.k5 (h : SrcC w tag W ev V g x) (hu : Upd X w w') (hX : ∀ b, b < w.heap.size → X b → tag b = t) (ht : t ≠ 5) : Sl 0 w' 1 ev x.evs.length (x.evs.map evv) :=
  h.evr.upd hu (fun b hb e => by have := hX b (h.evr.lt b hb).2 e; have := h.t5 b hb; omega)
theorem SrcC.k6 (h : SrcC w tag W ev V g x) (hu : Upd X w w') (hX : ∀ b, b < w.heap.size → X b → tag b = t) (j : Nat) (hj : j < x.n) (ht : t ≠ 3 * j + 6) : CurAt w' (V.cu j) (V.lg j) (x.re j) (x.er j) (x.rd j) :=
  (h.cur j hj).upd hu (fun e => by have := hX _ (h.cur j hj).lt e; have := h.t6 j hj; omega)
theorem SrcC.k7 (h : SrcC w tag W ev V g x) (hu : Upd X w w') (hX : ∀ b, b < w.heap.size → X b → tag b = t) (j : Nat) (hj : j < x.n) (ht : t ≠ 3 * j + 7) : GenC w' (W j) (V.ty j) (V.wy j) (x.ru j) (x.gt j) :=
  (h.way j hj).upd hu (fun b hb e => by have := hX b ((h.way j hj).lt b hb) e; have := h.t7 j hj b hb; omega)
theorem SrcC.k8 (h : SrcC w tag W ev V g x) (hu : Upd X w w') (hX : ∀ b, b < w.heap.size → X b → tag b = t) (j : Nat) (hj : j < x.n) (ht : t ≠ 3 * j + 8) : IdleC w' (V.st j) (x.is j) x.timeout (x.tl j) :=
  (h.sta j hj).upd hu (fun e => by have := hX _ (h.sta j hj).lt e; have := h.t8 j hj; omega)
/-- What changes nothing of it. -/
theorem SrcC.upd (h : SrcC w tag W ev V g x) (hu : Upd X w w') (hX : ∀ b, b < w.heap.size → X b → tag b = 0) : SrcC w' tag W ev V g x :=
  ⟨h.k1 hu hX (by omega), h.k2 hu hX (by omega), h.k3 hu hX (by omega), h.k4 hu hX (by omega), h.k5 hu hX (by omega), fun j hj => h.k6 hu hX j hj (by omega), fun j hj => h.k7 hu hX j hj (by omega), fun j hj => h.k8 hu hX j hj (by omega), h.t1, h.t2, h.t3, h.t4, h.t5, h.t6, h.t7, h.t8⟩
theorem SrcC.on (h : SrcC w tag W ev V g x) (hb : Below w.heap.size w w') : SrcC w' tag W ev V g x :=
  h.upd (X := fun k => w.heap.size ≤ k) (Upd.of_below hb (fun _ _ h => h)) (fun b hb e => by omega)
theorem SrcC.alloc (h : SrcC w tag W ev V g x) (o : Obj) : SrcC (w.alloc o) tag W ev V g x := h.upd (X := fun _ => False) ((Upd.refl _ _).alloc o) (fun _ _ h => h.elim)
theorem SrcC.drewN (h : SrcC w tag W ev V g x) (n : Nat) : SrcC (w.drewN n) tag W ev V g x := h.upd (X := fun _ => False) ((Upd.refl _ _).drewN n) (fun _ _ h => h.elim)
theorem SrcC.drew (h : SrcC w tag W ev V g x) : SrcC w.drew tag W ev V g x := h.upd (X := fun _ => False) ((Upd.refl _ _).drew) (fun _ _ h => h.elim)
theorem SrcC.lt (h : SrcC w tag W ev V g x) : g < w.heap.size := h.blk.1

/- Each thing that can happen. -/
theorem SrcC.toCur (h : SrcC w tag W ev V g x) (i : Nat) (hi : i < x.n) (k : Nat) (hc : CurAt w' (V.cu i) (V.lg i) (x.re i) (x.er i) k) (hu : Upd (fun b => b = V.cu i) w w') : SrcC w' tag W ev V g { x with rd := put x.rd i k } := by
  have hX : ∀ b, b < w.heap.size → b = V.cu i → tag b = 3 * i + 6 := fun b _ e => e ▸ h.t6 i hi
  refine ⟨h.k1 hu hX (by omega), h.k2 hu hX (by omega), h.k3 hu hX (by omega), h.k4 hu hX (by omega), h.k5 hu hX (by omega), fun j hj => ?_, fun j hj => h.k7 hu hX j hj (by omega), fun j hj => h.k8 hu hX j hj (by omega), h.t1, h.t2, h.t3, h.t4, h.t5, h.t6, h.t7, h.t8⟩
  show CurAt w' (V.cu j) (V.lg j) (x.re j) (x.er j) (put x.rd i k j)
  by_cases e : j = i
  · subst e; rw [put_same]; exact hc
  · rw [put_other _ _ _ e]; exact h.k6 hu hX j hj (by omega)
theorem SrcC.toSta (h : SrcC w tag W ev V g x) (i : Nat) (hi : i < x.n) (s d : Int) (hc : IdPost (V.st i) s x.timeout d w w') : SrcC w' tag W ev V g { x with is := put x.is i s, tl := put x.tl i d } := by
  have hu := hc.2
  have hX : ∀ b, b < w.heap.size → b = V.st i → tag b = 3 * i + 8 := fun b _ e => e ▸ h.t8 i hi
  refine ⟨h.k1 hu hX (by omega), h.k2 hu hX (by omega), h.k3 hu hX (by omega), h.k4 hu hX (by omega), h.k5 hu hX (by omega), fun j hj => h.k6 hu hX j hj (by omega), fun j hj => h.k7 hu hX j hj (by omega), fun j hj => ?_, h.t1, h.t2, h.t3, h.t4, h.t5, h.t6, h.t7, h.t8⟩
  show IdleC w' (V.st j) (put x.is i s j) x.timeout (put x.tl i d j)
  by_cases e : j = i
  · subst e; rw [put_same, put_same]; exact hc.1
  · rw [put_other _ _ _ e, put_other _ _ _ e]; exact h.k8 hu hX j hj (by omega)
theorem SrcC.toMer (h : SrcC w tag W ev V g x) (K S : Nat → Int) (now : Int) (hc : MePost V.F V.gm x.m K (oa S 0) (oa S 1) now w w') : SrcC w' tag W ev V g { x with K := K, S := S, now := now } := by
  have hu := hc.2
  have hX : ∀ b, b < w.heap.size → V.F b → tag b = 3 := fun b _ e => h.t3 b e
  exact ⟨h.k1 hu hX (by omega), h.k2 hu hX (by omega), hc.1, h.k4 hu hX (by omega), h.k5 hu hX (by omega), fun j hj => h.k6 hu hX j hj (by omega), fun j hj => h.k7 hu hX j hj (by omega), fun j hj => h.k8 hu hX j hj (by omega), h.t1, h.t2, h.t3, h.t4, h.t5, h.t6, h.t7, h.t8⟩
theorem SrcC.toAli (h : SrcC w tag W ev V g x) (G : Int) (L : Nat → Int) (hc : AlPost V.ga V.gl x.m x.drift G L w w') : SrcC w' tag W ev V g { x with G := G, L := L } := by
  have hu := hc.2
  have hX : ∀ b, b < w.heap.size → (b = V.ga ∨ b = V.gl) → tag b = 4 := fun b _ e => by
    rcases e with rfl | rfl
    · exact h.t4.1
    · exact h.t4.2
  exact ⟨h.k1 hu hX (by omega), h.k2 hu hX (by omega), h.k3 hu hX (by omega), hc.1, h.k5 hu hX (by omega), fun j hj => h.k6 hu hX j hj (by omega), fun j hj => h.k7 hu hX j hj (by omega), fun j hj => h.k8 hu hX j hj (by omega), h.t1, h.t2, h.t3, h.t4, h.t5, h.t6, h.t7, h.t8⟩
/-- Blocks that were not there belong to t. -/
def retag (tag : Nat → Nat) (n t : Nat) : Nat → Nat := fun b => if b < n then tag b else t
theorem retag_old {tag : Nat → Nat} {n t b : Nat} (h : b < n) : retag tag n t b = tag b := if_pos h
theorem retag_new {tag : Nat → Nat} {n t b : Nat} (h : n ≤ b) : retag tag n t b = t := if_neg (by omega)
theorem SrcC.retag (h : SrcC w tag W ev V g x) (t : Nat) : SrcC w (retag tag w.heap.size t) W ev V g x :=
  ⟨h.blk, h.row, h.mer, h.ali, h.evr, h.cur, h.way, h.sta, (retag_old h.blk.1).trans h.t1, fun b hb => (retag_old (h.row.lt b hb).2).trans (h.t2 b hb), fun b hb => (retag_old (h.mer.lt b hb)).trans (h.t3 b hb), ⟨(retag_old h.ali.at_.1).trans h.t4.1, (retag_old h.ali.ls.lt).trans h.t4.2⟩,
    fun b hb => (retag_old (h.evr.lt b hb).2).trans (h.t5 b hb), fun j hj => (retag_old (h.cur j hj).lt).trans (h.t6 j hj), fun j hj b hb => (retag_old ((h.way j hj).lt b hb)).trans (h.t7 j hj b hb), fun j hj => (retag_old (h.sta j hj).lt).trans (h.t8 j hj)⟩
theorem SrcC.toWay (h : SrcC w tag W ev V g x) (i : Nat) (hi : i < x.n) (l : List R) (hc : GPost (W i) (V.ty i) (V.wy i) (x.ru i) l w w') :
    ∃ W', SrcC w' (Go.Proofs.YtoecikeleoaecaaGreat.retag tag w.heap.size (3 * i + 7)) W' ev V g { x with gt := put x.gt i l } := by
  obtain ⟨S', hc1, hu, hS⟩ := hc
  have hX : ∀ b, b < w.heap.size → W i b → tag b = 3 * i + 7 := fun b _ e => h.t7 i hi b e
  have r := h.retag (3 * i + 7)
  refine ⟨put W i S', h.k1 hu hX (by omega), h.k2 hu hX (by omega), h.k3 hu hX (by omega), h.k4 hu hX (by omega), h.k5 hu hX (by omega), fun j hj => h.k6 hu hX j hj (by omega), fun j hj => ?_, fun j hj => h.k8 hu hX j hj (by omega), r.t1, r.t2, r.t3, r.t4, r.t5, r.t6, fun j hj b hb => ?_, r.t8⟩
  · show GenC w' (put W i S' j) (V.ty j) (V.wy j) (x.ru j) (put x.gt i l j)
    by_cases e : j = i
    · subst e; rw [put_same, put_same]; exact hc1
    · rw [put_other _ _ _ e, put_other _ _ _ e]; exact h.k7 hu hX j hj (by omega)
  · by_cases e : j = i
    · subst e
      rw [put_same] at hb
      rcases hS b hb with hb | hb
      · exact r.t7 j hj b hb
      · exact retag_new hb
    · rw [put_other _ _ _ e] at hb
      exact r.t7 j hj b hb
/-- A cell of its own block is written. -/
theorem SrcC.hX1 (h : SrcC w tag W ev V g x) : ∀ b, b < w.heap.size → b = g → tag b = 1 := fun b _ e => e ▸ h.t1
theorem SrcC.toClk (h : SrcC w tag W ev V g x) (c : Int) : SrcC (w.setCell ⟨g, 1, none⟩ (.int .i64 c)) tag W ev V g { x with clock := c } := by
  have hu : Upd (fun b => b = g) w (w.setCell ⟨g, 1, none⟩ (.int .i64 c)) := (Upd.refl (fun b => b = g) w).setCell (p := ⟨g, 1, none⟩) (fun _ => rfl) _
  have hX := h.hX1
  exact ⟨h.blk.set 1 (by simp) _, h.k2 hu hX (by omega), h.k3 hu hX (by omega), h.k4 hu hX (by omega), h.k5 hu hX (by omega), fun j hj => h.k6 hu hX j hj (by omega), fun j hj => h.k7 hu hX j hj (by omega), fun j hj => h.k8 hu hX j hj (by omega), h.t1, h.t2, h.t3, h.t4, h.t5, h.t6, h.t7, h.t8⟩
theorem SrcC.toBeg (h : SrcC w tag W ev V g x) (k : Nat) : SrcC (w.setCell ⟨g, 5, none⟩ (.int .i64 k)) tag W ev V g { x with beg := k } := by
  have hu : Upd (fun b => b = g) w (w.setCell ⟨g, 5, none⟩ (.int .i64 k)) := (Upd.refl (fun b => b = g) w).setCell (p := ⟨g, 5, none⟩) (fun _ => rfl) _
  have hX := h.hX1
  exact ⟨h.blk.set 5 (by simp) _, h.k2 hu hX (by omega), h.k3 hu hX (by omega), h.k4 hu hX (by omega), h.k5 hu hX (by omega), fun j hj => h.k6 hu hX j hj (by omega), fun j hj => h.k7 hu hX j hj (by omega), fun j hj => h.k8 hu hX j hj (by omega), h.t1, h.t2, h.t3, h.t4, h.t5, h.t6, h.t7, h.t8⟩
/-- An event more: behind what was appended, the slice is laid in its cell. -/
theorem SrcC.toEv (h : SrcC w tag W ev V g x) (v : Ev) {ev' : Value} {w1 : World} {N : Nat} (hN : w.heap.size ≤ N) (q1 : Sl 0 w1 1 ev' (x.evs.length + 1) (x.evs.map evv ++ [evv v])) (q2 : Upd (fun b => ev.ownBlock = some b) w w1) (q3 : ∀ b, ev'.ownBlock = some b → ev.ownBlock = some b ∨ N ≤ b) :
    SrcC (w1.setCell ⟨g, 4, none⟩ ev') (Go.Proofs.YtoecikeleoaecaaGreat.retag tag w.heap.size 5) W ev' V g { x with evs := x.evs ++ [v] } := by
  have hX : ∀ b, b < w.heap.size → ev.ownBlock = some b → tag b = 5 := fun b _ e => h.t5 b e
  have r := h.retag 5
  have h1 : SrcC w1 (Go.Proofs.YtoecikeleoaecaaGreat.retag tag w.heap.size 5) W ev' V g { x with evs := x.evs ++ [v] } → True := fun _ => trivial
  have hb := h.k1 q2 hX (by omega)
  have hu : Upd (fun b => b = g) w1 (w1.setCell ⟨g, 4, none⟩ ev') := (Upd.refl (fun b => b = g) w1).setCell (p := ⟨g, 4, none⟩) (fun _ => rfl) _
  have hne : ∀ b, ev'.ownBlock = some b → b ≠ g := fun b hw e => by
    subst e
    rcases q3 _ hw with h2 | h2
    · have := h.t5 _ h2; have := h.t1; omega
    · have := h.blk.1; omega
  have hg := h.blk.1
  have nt : ∀ b, tag b ≠ 1 → b ≠ g := fun b hb e => hb (e ▸ h.t1)
  refine ⟨hb.set 4 (by simp) _, (h.k2 q2 hX (by omega)).upd hu (fun b hb => nt b (by rw [h.t2 b hb]; omega)), (h.k3 q2 hX (by omega)).upd hu (fun b hb => nt b (by rw [h.t3 b hb]; omega)), (h.k4 q2 hX (by omega)).upd hu (nt _ (by rw [h.t4.1]; omega)) (nt _ (by rw [h.t4.2]; omega)),
    ?_, fun j hj => (h.k6 q2 hX j hj (by omega)).upd hu (nt _ (by rw [h.t6 j hj]; omega)), fun j hj => (h.k7 q2 hX j hj (by omega)).upd hu (fun b hb => nt b (by rw [h.t7 j hj b hb]; omega)), fun j hj => (h.k8 q2 hX j hj (by omega)).upd hu (nt _ (by rw [h.t8 j hj]; omega)),
    r.t1, r.t2, r.t3, r.t4, fun b hb => ?_, r.t6, r.t7, r.t8⟩
  · show Sl 0 _ 1 ev' (x.evs ++ [v]).length ((x.evs ++ [v]).map evv)
    rw [List.length_append, List.map_append]
    exact q1.upd hu (fun b hb => hne b hb)
  · rcases q3 b hb with h2 | h2
    · exact r.t5 b h2
    · exact retag_new (by omega)
end
/-- What a call makes of a source. -/
def SrPost (tag : Nat → Nat) (V : SrcV) (g : Nat) (x : Lo) (w w' : World) : Prop :=
  ∃ tag' W' ev', SrcC w' tag' W' ev' V g x ∧ Upd (fun b => tag b ≠ 0) w w' ∧ ∀ b, tag' b ≠ 0 → tag b ≠ 0 ∨ w.heap.size ≤ b
theorem SrPost.same {tag : Nat → Nat} {W : Nat → Nat → Prop} {ev : Value} {V : SrcV} {g : Nat} {x : Lo} {w : World} (h : SrcC w tag W ev V g x) : SrPost tag V g x w w := ⟨tag, W, ev, h, Upd.refl _ _, fun _ h => .inl h⟩
theorem SrPost.on {tag : Nat → Nat} {V : SrcV} {g : Nat} {x : Lo} {w a b : World} (h : SrPost tag V g x w a) (hb : Below a.heap.size a b) : SrPost tag V g x w b := by
  obtain ⟨tag', W', ev', h1, h2, h3⟩ := h
  exact ⟨tag', W', ev', h1.on hb, h2.trans (Upd.of_below (S := fun k => a.heap.size ≤ k) hb (fun _ _ h => h)) (fun i hi h => by have := h2.size; omega), h3⟩
end Go.Proofs.YtoecikeleoaecaaGreat
