/- A source that grows: a partition more. -/
import Derived.Test.YtoecikeleoaecaaGreatSrc7
import Derived.Test.YtoecikeleoaecaaGreatKRul
import Derived.Test.YtoecikeleoaecaaGreatKMerge
import Derived.Test.YtoecikeleoaecaaGreatKGen
import Derived.Deep.RegionLaw
import Derived.Deep.RegionHeld3
namespace Go.Proofs.YtoecikeleoaecaaGreat
set_option maxRecDepth 4000
open Go.ChangeShapes Go.WideShapes Go.ChangeAt Go.RowKit
open PHist PRing PSat PClamp PBound PFrame PVar PCrc PSign PTree PEv
set_option linter.unusedVariables false
set_option linter.unusedSimpArgs false

theorem step_append_own {P : Program} {ops : Array Oper} {o : Oper} {a : Act} {w : World} {K : Act → World → Prop} {Q : Exit → Act → World → Prop} {E : Prop}
    (hg : o.guard = none) (s x : Operand) (t tx : TypeId) (hop : o.op = Op.call { callee := Callee.builtin Builtin.append, args := #[s, x], argTypes := #[t, tx] })
    {B : Nat} {size : Nat} (e : TypeId) (i : TypeInfo) (z : Value) (bytes : Nat) (ht : P.underlying t = some (.slice e)) (hi : P.info? e = some i) (hz : i.zero = some z) (hsize : i.size = size) (hby : i.bytes = bytes) (hzs : z.cells.size = size)
    (v xv : Value) {n : Nat} {xs : List Value} (m : Nat) (news : List Value) (hv : a.eval s = v) (hx : a.eval x = xv) (h : Sl B w size v n xs) (hs : Src P size tx xv m news w)
    (h63 : n + m ≤ maxLen) (hbytes : (n + m) * bytes ≤ 140737488355328) (hB : B ≤ w.heap.size)
    (hK : ∀ a1 c1 w', Sl B w' size (.slice a1 (n + m) c1) (n + m) (xs ++ news) → Upd (fun k => v.ownBlock = some k) w w' → (∀ k, (Value.slice a1 (n + m) c1).ownBlock = some k → v.ownBlock = some k ∨ w.heap.size ≤ k) → K (a.put o.dst (.slice a1 (n + m) c1)) w') :
    if Region.wanted o (yielded ops a.tmps) = true then Oper.wp P o a w K Q else E := by
  obtain ⟨v', w', hr, r1, r2, r3⟩ := run_append_sl (P := P) w t tx o.type e i z bytes ht hi hz hsize hby hzs h xv m news hs h63 hbytes hB
  obtain ⟨a1, c1, rfl⟩ := r1.shape
  exact step_append_run hg s x t tx hop v xv hv hx hr (hK a1 c1 w' r1 r2 r3)

open Classical in
/-- Whose a block is, behind a partition more. -/
noncomputable def gtag (tag : Nat → Nat) (n k cu st : Nat) (S' : Nat → Prop) : Nat → Nat := fun b => if b < n then tag b else if b = cu then 3 * k + 6 else if S' b then 3 * k + 7 else if b = st then 3 * k + 8 else 2
theorem gtag_old {tag : Nat → Nat} {n k cu st b : Nat} {S' : Nat → Prop} (h : b < n) : gtag tag n k cu st S' b = tag b := if_pos h
theorem gtag_cu {tag : Nat → Nat} {n k cu st : Nat} {S' : Nat → Prop} (h : n ≤ cu) : gtag tag n k cu st S' cu = 3 * k + 6 := by unfold gtag; rw [if_neg (by omega), if_pos rfl]
theorem gtag_w {tag : Nat → Nat} {n k cu st b : Nat} {S' : Nat → Prop} (h : n ≤ b) (h1 : b ≠ cu) (h2 : S' b) : gtag tag n k cu st S' b = 3 * k + 7 := by unfold gtag; rw [if_neg (by omega), if_neg h1, if_pos h2]
theorem gtag_st {tag : Nat → Nat} {n k cu st : Nat} {S' : Nat → Prop} (h : n ≤ st) (h1 : st ≠ cu) (h2 : ¬ S' st) : gtag tag n k cu st S' st = 3 * k + 8 := by unfold gtag; rw [if_neg (by omega), if_neg h1, if_neg h2, if_pos rfl]
theorem gtag_pv {tag : Nat → Nat} {n k cu st b : Nat} {S' : Nat → Prop} (h : n ≤ b) (h1 : b ≠ cu) (h2 : ¬ S' b) (h3 : b ≠ st) : gtag tag n k cu st S' b = 2 := by unfold gtag; rw [if_neg (by omega), if_neg h1, if_neg h2, if_neg h3]

theorem SrcC.grow {w w3 : World} {tag : Nat → Nat} {W : Nat → Nat → Prop} {ev : Value} {V : SrcV} {g : Nat} {x : Lo} (h : SrcC w tag W ev V g x) {pv' : Value} {cu st gw : Nat} {t : TypeId} {S' : Nat → Prop} {k : Nat} (hk : x.n = k)
    (q2 : Upd (fun b => V.pv.ownBlock = some b) w w3)
    (q1 : Sl 0 w3 3 pv' (k + 1) (ptv V k ++ [.pointer (some ⟨cu, 0, none⟩), .iface t (.pointer (some ⟨gw, 0, none⟩)), .pointer (some ⟨st, 0, none⟩)]))
    (q3 : ∀ b, pv'.ownBlock = some b → V.pv.ownBlock = some b ∨ (w.heap.size ≤ b ∧ b ≠ cu ∧ b ≠ st ∧ ¬ S' b))
    (hc : CurAt w3 cu (V.lg k) (x.re k) (x.er k) (x.rd k)) (hw : GenC w3 S' t gw (x.ru k) (x.gt k)) (hs : IdleC w3 st (x.is k) x.timeout (x.tl k))
    (c0 : w.heap.size ≤ cu) (s0 : w.heap.size ≤ st) (w0 : ∀ b, S' b → w.heap.size ≤ b) (n1 : cu ≠ st) (n2 : ¬ S' cu) (n3 : ¬ S' st) :
    ∃ tag' W', SrcC (w3.setCell ⟨g, 0, none⟩ pv') tag' W' ev { V with pv := pv', cu := put V.cu k cu, ty := put V.ty k t, wy := put V.wy k gw, st := put V.st k st } g { x with n := k + 1 } ∧ ∀ b, tag' b ≠ 0 → tag b ≠ 0 ∨ w.heap.size ≤ b := by
  subst hk
  have hX : ∀ b, b < w.heap.size → V.pv.ownBlock = some b → tag b = 2 := fun b _ e => h.t2 b e
  have hu : Upd (fun b => b = g) w3 (w3.setCell ⟨g, 0, none⟩ pv') := (Upd.refl (fun b => b = g) w3).setCell (p := ⟨g, 0, none⟩) (fun _ => rfl) _
  have hg := h.blk.1
  have nt : ∀ b, tag b ≠ 1 → b ≠ g := fun b hb e => hb (e ▸ h.t1)
  have nn : ∀ b, w.heap.size ≤ b → b ≠ g := fun b hb e => by omega
  have hne : ∀ b, pv'.ownBlock = some b → b ≠ g := fun b hb => by
    rcases q3 b hb with h2 | ⟨h2, -⟩
    · exact nt b (by rw [h.t2 b h2]; omega)
    · exact nn b h2
  have E : ∀ k, k < x.n → ptc V k = ptc { V with pv := pv', cu := put V.cu x.n cu, ty := put V.ty x.n t, wy := put V.wy x.n gw, st := put V.st x.n st } k := fun k hk => by
    unfold ptc
    simp only
    rw [put_other _ _ _ (by omega), put_other _ _ _ (by omega), put_other _ _ _ (by omega), put_other _ _ _ (by omega)]
  refine ⟨gtag tag w.heap.size x.n cu st S', put W x.n S', ⟨(h.k1 q2 hX (by omega)).set 0 (by simp) _, ?_, (h.k3 q2 hX (by omega)).upd hu (fun b hb => nt b (by rw [h.t3 b hb]; omega)), (h.k4 q2 hX (by omega)).upd hu (nt _ (by rw [h.t4.1]; omega)) (nt _ (by rw [h.t4.2]; omega)),
    (h.k5 q2 hX (by omega)).upd hu (fun b hb => nt b (by rw [h.t5 b hb]; omega)), fun j hj => ?_, fun j hj => ?_, fun j hj => ?_, (gtag_old hg).trans h.t1, fun b hb => ?_, fun b hb => (gtag_old (h.mer.lt b hb)).trans (h.t3 b hb), ⟨(gtag_old h.ali.at_.1).trans h.t4.1, (gtag_old h.ali.ls.lt).trans h.t4.2⟩,
    fun b hb => (gtag_old (h.evr.lt b hb).2).trans (h.t5 b hb), fun j hj => ?_, fun j hj b hb => ?_, fun j hj => ?_⟩, fun b hb => ?_⟩
  · show Sl 0 _ 3 pv' (x.n + 1) (ptv _ x.n ++ ptc _ x.n)
    rw [← ptv_congr x.n E]
    unfold ptc
    simp only
    rw [put_same, put_same, put_same, put_same]
    exact q1.upd hu hne
  · show CurAt _ (put V.cu x.n cu j) (V.lg j) (x.re j) (x.er j) (x.rd j)
    by_cases e : j = x.n
    · subst e; rw [put_same]; exact hc.upd hu (nn _ c0)
    · rw [put_other _ _ _ e]
      have hj : j < x.n + 1 := hj
      exact (h.k6 q2 hX j (by omega) (by omega)).upd hu (nt _ (by rw [h.t6 j (by omega)]; omega))
  · show GenC _ (put W x.n S' j) (put V.ty x.n t j) (put V.wy x.n gw j) (x.ru j) (x.gt j)
    by_cases e : j = x.n
    · subst e; rw [put_same, put_same, put_same]; exact hw.upd hu (fun b hb => nn b (w0 b hb))
    · rw [put_other _ _ _ e, put_other _ _ _ e, put_other _ _ _ e]
      have hj : j < x.n + 1 := hj
      exact (h.k7 q2 hX j (by omega) (by omega)).upd hu (fun b hb => nt _ (by rw [h.t7 j (by omega) b hb]; omega))
  · show IdleC _ (put V.st x.n st j) (x.is j) x.timeout (x.tl j)
    by_cases e : j = x.n
    · subst e; rw [put_same]; exact hs.upd hu (nn _ s0)
    · rw [put_other _ _ _ e]
      have hj : j < x.n + 1 := hj
      exact (h.k8 q2 hX j (by omega) (by omega)).upd hu (nt _ (by rw [h.t8 j (by omega)]; omega))
  · rcases q3 b hb with h2 | ⟨h2, h3, h4, h5⟩
    · exact (gtag_old (h.row.lt b h2).2).trans (h.t2 b h2)
    · exact gtag_pv h2 h3 h5 h4
  · show gtag tag w.heap.size x.n cu st S' (put V.cu x.n cu j) = _
    by_cases e : j = x.n
    · subst e; rw [put_same]; exact gtag_cu c0
    · rw [put_other _ _ _ e]
      have hj : j < x.n + 1 := hj
      exact (gtag_old (h.cur j (by omega)).lt).trans (h.t6 j (by omega))
  · by_cases e : j = x.n
    · subst e
      rw [put_same] at hb
      exact gtag_w (w0 b hb) (fun e => n2 (e ▸ hb)) hb
    · rw [put_other _ _ _ e] at hb
      have hj : j < x.n + 1 := hj
      exact (gtag_old ((h.way j (by omega)).lt b hb)).trans (h.t7 j (by omega) b hb)
  · show gtag tag w.heap.size x.n cu st S' (put V.st x.n st j) = _
    by_cases e : j = x.n
    · subst e; rw [put_same]; exact gtag_st s0 (fun e => n1 e.symm) n3
    · rw [put_other _ _ _ e]
      have hj : j < x.n + 1 := hj
      exact (gtag_old (h.sta j (by omega)).lt).trans (h.t8 j (by omega))
  · rcases Nat.lt_or_ge b w.heap.size with hlt | hge
    · rw [gtag_old hlt] at hb; exact .inl hb
    · exact .inr hge

/-- Ahead of the settling: k of the partitions are there. -/
def newX (t d : Int) (rs : List Rul) (ls : List (List UInt8)) (k : Nat) : Lo := { (loOf ⟨raws t rs ls, t, d, 0, -9223372036854775808⟩ [] 0) with n := k, m := rs.length }
theorem raws_kk {t : Int} {rs : List Rul} {ls : List (List UInt8)} (h : ls.length = rs.length) (hc : ∀ r ∈ rs, rcheck r = 0) : kk (raws t rs ls) = fun _ => -9223372036854775808 := by
  funext j
  unfold kk
  by_cases hj : j < rs.length
  · rw [raws_at h j hj]
    exact gnow_never (hc _ (List.getElem_mem hj))
  · rw [pat_none (by rw [raws_len h]; exact hj)]
    exact gnow_never (r := ⟨0, 0, 0, 0, 0⟩) rfl
theorem raws_ss {t : Int} {rs : List Rul} {ls : List (List UInt8)} (h : ls.length = rs.length) : ss (raws t rs ls) = fun _ => 0 := by
  funext j
  unfold ss
  by_cases hj : j < rs.length
  · rw [raws_at h j hj]; rfl
  · rw [pat_none (by rw [raws_len h]; exact hj)]; rfl
/-- A source of nothing as yet. -/
theorem SrcC.made {w : World} {g gm ga gl : Nat} {F : Nat → Prop} {t d : Int} {rs : List Rul} {ls : List (List UInt8)} (lg : Nat → ByteArray) (hl : ls.length = rs.length) (hc : ∀ r ∈ rs, rcheck r = 0)
    (hA : At w g [.slice none 0 0, .int .i64 0, .pointer (some ⟨gm, 0, none⟩), .pointer (some ⟨ga, 0, none⟩), .slice none 0 0, .int .i64 0])
    (hm : MergeC w F gm rs.length (fun _ => -9223372036854775808) (oa (fun _ => 0) 0) (oa (fun _ => 0) 1) (-9223372036854775808)) (ha : AlignC w ga gl rs.length d (-9223372036854775808) (fun _ => -9223372036854775808))
    {B : Nat} (b1 : B ≤ g) (b2 : ∀ b, F b → B ≤ b) (b3 : B ≤ ga) (b4 : B ≤ gl) (n1 : ¬ F g) (n2 : g ≠ ga) (n3 : g ≠ gl) (n4 : ¬ F ga) (n5 : ¬ F gl) :
    ∃ tag, SrcC w tag (fun _ _ => False) (.slice none 0 0) ⟨.slice none 0 0, fun _ => 0, fun _ => 0, fun _ => 0, fun _ => 0, lg, gm, F, ga, gl⟩ g (newX t d rs ls 0) ∧ ∀ b, tag b ≠ 0 → B ≤ b := by
  classical
  refine ⟨fun b => if b = g then 1 else if F b then 3 else if b = ga ∨ b = gl then 4 else 0, ⟨hA, Sl.nil _ _ _, ?_, ?_, Sl.nil _ _ _, fun j hj => (Nat.not_lt_zero _ hj).elim, fun j hj => (Nat.not_lt_zero _ hj).elim, fun j hj => (Nat.not_lt_zero _ hj).elim, if_pos rfl, (fun b hb => by cases hb), fun b hb => ?_, ⟨?_, ?_⟩, (fun b hb => by cases hb), fun j hj => (Nat.not_lt_zero _ hj).elim, fun j hj => (Nat.not_lt_zero _ hj).elim, fun j hj => (Nat.not_lt_zero _ hj).elim⟩, fun b hb => ?_⟩
  · show MergeC w F gm rs.length (kk (raws t rs ls)) (oa (ss (raws t rs ls)) 0) (oa (ss (raws t rs ls)) 1) _
    rw [raws_kk hl hc, raws_ss hl]
    exact hm
  · show AlignC w ga gl rs.length d _ (kk (raws t rs ls))
    rw [raws_kk hl hc]
    exact ha
  · show (if _ then _ else _) = _
    rw [if_neg (fun e : b = g => n1 (e ▸ hb)), if_pos hb]
  · show (if _ then _ else _) = _
    rw [if_neg (fun e : ga = g => n2 e.symm), if_neg n4, if_pos (.inl rfl)]
  · show (if _ then _ else _) = _
    rw [if_neg (fun e : gl = g => n3 e.symm), if_neg n5, if_pos (.inr rfl)]
  · by_cases h1 : b = g
    · rw [h1]; exact b1
    · by_cases h2 : F b
      · exact b2 b h2
      · by_cases h3 : b = ga ∨ b = gl
        · rcases h3 with h3 | h3
          · rw [h3]; exact b3
          · rw [h3]; exact b4
        · exact absurd (by show (if _ then _ else _) = _; rw [if_neg h1, if_neg h2, if_neg h3]) hb
end Go.Proofs.YtoecikeleoaecaaGreat
