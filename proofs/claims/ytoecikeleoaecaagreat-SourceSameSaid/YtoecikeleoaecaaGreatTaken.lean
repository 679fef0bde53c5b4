/- A source, the choices that were taken, and what came out last. -/
import Derived.Test.YtoecikeleoaecaaGreatSrcI
import Derived.Test.YtoecikeleoaecaaGreatSame22
namespace Go.Proofs.YtoecikeleoaecaaGreat
set_option maxRecDepth 4000
open Go.ChangeShapes Go.WideShapes Go.ChangeAt Go.RowKit
open PHist PRing PSat PClamp PBound PFrame PVar PCrc PSign PTree PEv
set_option linter.unusedVariables false
set_option linter.unusedSimpArgs false

/-- The choices that were not in vain. -/
def St.takes : St → List (Bool × Int) → List (Bool × Int)
  | _, [] => []
  | s, x :: l => (if s.vain x then [] else [x]) ++ (s.doS x).takes l
theorem takes_append : ∀ (l m : List (Bool × Int)) (s : St), s.takes (l ++ m) = s.takes l ++ (s.run l).takes m
  | [], m, s => rfl
  | x :: l, m, s => by
    show (if s.vain x then [] else [x]) ++ (s.doS x).takes (l ++ m) = ((if s.vain x then [] else [x]) ++ (s.doS x).takes l) ++ ((s.doS x).run l).takes m
    rw [takes_append l m, List.append_assoc]
theorem takes_take (s : St) (l : List (Bool × Int)) (k : Nat) (hk : k < l.length) : s.takes (l.take (k + 1)) = s.takes (l.take k) ++ (if (s.run (l.take k)).vain l[k] then [] else [l[k]]) := by
  rw [List.take_succ_eq_append_getElem hk, takes_append]
  show _ = s.takes (l.take k) ++ _
  congr 1
  show (if (s.run (l.take k)).vain l[k] then [] else [l[k]]) ++ [] = _
  rw [List.append_nil]
theorem takes_run : ∀ (l : List (Bool × Int)) (s : St), s.run (s.takes l) = s.run l ∧ s.runE (s.takes l) = s.runE l
  | [], s => ⟨rfl, rfl⟩
  | x :: l, s => by
    have h := takes_run l (s.doS x)
    show s.run ((if s.vain x then [] else [x]) ++ (s.doS x).takes l) = (s.doS x).run l ∧ s.runE ((if s.vain x then [] else [x]) ++ (s.doS x).takes l) = s.doE x ++ (s.doS x).runE l
    cases hv : s.vain x
    · exact ⟨h.1, by show s.doE x ++ (s.doS x).runE ((s.doS x).takes l) = _; rw [h.2]⟩
    · obtain ⟨h1, h2⟩ := vain_same hv
      rw [h1] at h
      rw [h1, h2]
      exact ⟨h.1, h.2⟩
theorem takes_mem : ∀ (l : List (Bool × Int)) (s : St), ∀ x ∈ s.takes l, x ∈ l
  | [], s => fun x h => by cases h
  | y :: l, s => fun x h => by
    have h' : x ∈ (if s.vain y then [] else [y]) ++ (s.doS y).takes l := h
    rcases List.mem_append.1 h' with h1 | h1
    · cases hv : s.vain y <;> rw [hv] at h1 <;> simp at h1
      rw [h1]; exact List.mem_cons_self
    · exact List.mem_cons_of_mem _ (takes_mem l _ x h1)
theorem takes_len : ∀ (l : List (Bool × Int)) (s : St), (s.takes l).length ≤ l.length
  | [], s => Nat.le_refl _
  | y :: l, s => by
    have h := takes_len l (s.doS y)
    show ((if s.vain y then [] else [y]) ++ (s.doS y).takes l).length ≤ l.length + 1
    rw [List.length_append]
    cases s.vain y <;> simp <;> omega

/-- A source, and a row of choices of the call's own. -/
structure SrcT (w0 w : World) (tag : Nat → Nat) (W : Nat → Nat → Prop) (ev : Value) (V : SrcV) (g : Nat) (s : St) (evs : List Ev) (beg : Nat) (u : Value) (ts : List (Bool × Int)) : Prop where
  src : SrcI w0 w tag W ev V g s evs beg
  row : Sl w0.heap.size w 2 u ts.length (ts.flatMap chc)
  fre : ∀ b, u.ownBlock = some b → tag b = 0
/-- And a row of events of the call's own. -/
structure SrcL (w0 w : World) (tag : Nat → Nat) (W : Nat → Nat → Prop) (ev : Value) (V : SrcV) (g : Nat) (s : St) (evs : List Ev) (beg : Nat) (u : Value) (ts : List (Bool × Int)) (v : Value) (n : Nat) : Prop where
  t : SrcT w0 w tag W ev V g s evs beg u ts
  lst : ∃ xs, Sl w0.heap.size w 1 v n xs
  fr : ∀ b, v.ownBlock = some b → tag b = 0
  ne : ∀ b, v.ownBlock = some b → u.ownBlock ≠ some b
section
variable {w0 w w' : World} {tag : Nat → Nat} {W : Nat → Nat → Prop} {ev : Value} {V : SrcV} {g : Nat} {s : St} {evs : List Ev} {beg : Nat} {u v : Value} {ts : List (Bool × Int)} {n : Nat}
theorem SrcT.on (h : SrcT w0 w tag W ev V g s evs beg u ts) (hb : Below w.heap.size w w') : SrcT w0 w' tag W ev V g s evs beg u ts := ⟨h.src.on hb, h.row.on hb, h.fre⟩
theorem SrcT.re (h : SrcT w0 w tag W ev V g s evs beg u ts) : SrcT w0 w (retag tag w.heap.size 0) W ev V g s evs beg u ts :=
  ⟨⟨h.src.src.retag 0, fun b hb => h.src.own b (by
    rcases Nat.lt_or_ge b w.heap.size with hlt | hge
    · rw [retag_old hlt] at hb; exact hb
    · exact absurd (retag_new hge) hb), h.src.new, h.src.ok⟩, h.row, fun b hb => by rw [retag_old (h.row.lt b hb).2]; exact h.fre b hb⟩
theorem SrcT.does (h : SrcT w0 w tag W ev V g s evs beg u ts) (x : Bool × Int) (hx : in64 x.2) (hb : evs.length ≤ 90000) :
    Calls Tryz.prog 21 #[.pointer (some ⟨g, 0, none⟩), .agg #[.bool x.1, .int .i64 x.2]] w fun e w' => ∃ v tag' W' ev', e = .returned v ∧ SrcL w0 w' tag' W' ev' V g (s.doS x) (evs ++ s.doE x) beg u ts v (s.doE x).length ∧ ∀ b l, tag b = 0 → At w b l → At w' b l :=
  (so_do tag W ev V g s evs beg x.1 x.2 w h.src.src h.src.ok hx hb).mono fun e w' k => by
    obtain ⟨v, tag', W', ev', h1, h2, h3, h4, h5, h6⟩ := k
    have hI : SrcI w0 w' tag' W' ev' V g (s.doS x) (evs ++ s.doE x) beg := ⟨h3, fun b hb => (h5 b hb).elim (h.src.own b) (Nat.le_trans h.src.new.size), h.src.new.upd h4 h.src.new.size (fun i _ hi => h.src.own i hi), h.src.ok.do x⟩
    refine ⟨v, tag', W', ev', h1, ⟨⟨hI, h.row.upd h4 (fun k hk hn => hn (h.fre k hk)), fun b hb => ?_⟩, ⟨_, h2.base h.src.new.size⟩, h6, fun b hb e => ?_⟩, fun b l h0 ha => ha.upd h4 (fun hn => hn h0)⟩
    · apply Classical.byContradiction
      intro hn
      rcases h5 b hn with h7 | h7
      · exact h7 (h.fre b hb)
      · have := (h.row.lt b hb).2; omega
    · have := (h.row.lt b e).2
      have := (h2.lt b hb).1
      omega
theorem SrcL.on (h : SrcL w0 w tag W ev V g s evs beg u ts v n) (hb : Below w.heap.size w w') : SrcL w0 w' tag W ev V g s evs beg u ts v n := ⟨h.t.on hb, h.lst.elim fun xs k => ⟨xs, k.on hb⟩, h.fr, h.ne⟩
theorem SrcL.app {x : Bool × Int} {o : Obj} {u' : Value} (h : SrcL w0 w tag W ev V g s evs beg u ts v n) (k1 : Sl w0.heap.size w' 2 u' (ts.length + 1) (ts.flatMap chc ++ [.bool x.1, .int .i64 x.2])) (k2 : Upd (fun k => u.ownBlock = some k) (w.alloc o) w') (k3 : ∀ k, u'.ownBlock = some k → u.ownBlock = some k ∨ (w.alloc o).heap.size ≤ k) :
    SrcL w0 w' (retag tag w.heap.size 0) W ev V g s evs beg u' (ts ++ [x]) v n := by
  have hw := h.t.src.new.size
  have hsz : w.heap.size ≤ (w.alloc o).heap.size := by rw [World.size_alloc]; omega
  have hr : ∀ b, retag tag w.heap.size 0 b ≠ 0 → tag b ≠ 0 := fun b hb => by
    rcases Nat.lt_or_ge b w.heap.size with hlt | hge
    · rw [retag_old hlt] at hb; exact hb
    · exact absurd (retag_new hge) hb
  have hu : Upd (fun k => u.ownBlock = some k) w w' := Upd.trans ((Upd.refl (fun k => u.ownBlock = some k) w).alloc o) k2 (fun _ _ h => h)
  refine ⟨⟨⟨(h.t.src.src.retag 0).upd hu (fun b hb e => ?_), fun b hb => h.t.src.own b (hr b hb), h.t.src.new.upd hu hw (fun i _ hi => (h.t.row.lt i hi).1), h.t.src.ok⟩, ?_, fun b hb => ?_⟩, h.lst.elim fun xs k => ⟨xs, k.upd hu (fun b hb e => h.ne b hb e)⟩, fun b hb => ?_, fun b hb e => ?_⟩
  · rw [retag_old hb]; exact h.t.fre b e
  · rw [List.flatMap_append, List.length_append]; exact k1
  · rcases k3 b hb with e | e
    · rw [retag_old (h.t.row.lt b e).2]; exact h.t.fre b e
    · exact retag_new (by omega)
  · obtain ⟨xs, k⟩ := h.lst
    rw [retag_old (k.lt b hb).2]; exact h.fr b hb
  · obtain ⟨xs, k⟩ := h.lst
    rcases k3 b e with e' | e'
    · exact h.ne b hb e'
    · have := (k.lt b hb).2; omega
theorem SrcL.at_ {a : Option Addr} {c : Nat} (h : SrcL w0 w tag W ev V g s evs beg u ts (.slice a n c) n) (p : Nat) (hp : p < n) : ∃ gl off y, a = some ⟨gl, off, none⟩ ∧ gl < w.heap.size ∧ w.cell? ⟨gl, off + p, none⟩ = some y ∧ w.frozen? ⟨gl, off + p, none⟩ = false := by
  obtain ⟨xs, k⟩ := h.lst
  rcases k.2 with ⟨h1, h2⟩ | ⟨gl, off, cap, h1, h2, h3, h4, h5, h6, h7⟩
  · omega
  · cases h1
    obtain ⟨y, hy⟩ := Option.isSome_iff_exists.1 (h7 p (by omega)).1
    exact ⟨gl, off, y, rfl, h3, hy, (h7 p (by omega)).2⟩
theorem SrcL.poke {gl off c : Nat} (h : SrcL w0 w tag W ev V g s evs beg u ts (.slice (some ⟨gl, off, none⟩) n c) n) (p : Nat) (hp : p < n) (y : Value) : SrcL w0 (w.setCell ⟨gl, off + p, none⟩ y) tag W ev V g s evs beg u ts (.slice (some ⟨gl, off, none⟩) n c) n := by
  obtain ⟨xs, k⟩ := h.lst
  have hu : Upd (fun k => k = gl) w (w.setCell ⟨gl, off + p, none⟩ y) := (Upd.refl (fun k => k = gl) w).setCell (p := ⟨gl, off + p, none⟩) (fun _ => rfl) y
  have hl := k.lt gl rfl
  refine ⟨⟨⟨h.t.src.src.upd hu (fun b hb e => by rw [e]; exact h.fr gl rfl), h.t.src.own, h.t.src.new.upd hu h.t.src.new.size (fun i _ hi => by rw [hi]; exact hl.1), h.t.src.ok⟩, h.t.row.upd hu (fun b hb e => h.ne gl rfl (by rw [← e]; exact hb)), h.t.fre⟩, ⟨_, k.put p y (by omega)⟩, h.fr, h.ne⟩
end
theorem vain_p {s : St} {n : Int} {r : Bool} (h : s.refused n = r) : s.vain (false, n) = r := by
  unfold St.vain
  rw [h]; simp
theorem vain_t {s : St} {n : Int} : s.vain (true, n) = decide (n < 0) := by
  unfold St.vain; simp
theorem info_ch : (Tryz.prog.info? 48).map (fun i => (i.zero, i.size, i.bytes)) = some (some (.agg #[.bool false, .int .i64 0]), 2, 16) := by kernel_rfl
theorem chc_one (x : Bool × Int) : ∀ u ∈ [Value.bool x.1, .int .i64 x.2], u.oneCell' = true := by
  intro u hu
  simp only [List.mem_cons, List.not_mem_nil, or_false] at hu
  rcases hu with rfl | rfl <;> rfl
end Go.Proofs.YtoecikeleoaecaaGreat
