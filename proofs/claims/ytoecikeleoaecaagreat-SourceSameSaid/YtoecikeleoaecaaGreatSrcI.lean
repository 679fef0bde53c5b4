/- A source of one's own: what is asked of it. -/
import Derived.Test.YtoecikeleoaecaaGreatSrc10
import Derived.Test.YtoecikeleoaecaaGreatSrc7
import Derived.Test.YtoecikeleoaecaaGreatStMath
namespace Go.Proofs.YtoecikeleoaecaaGreat
set_option maxRecDepth 4000
open Go.ChangeShapes Go.WideShapes Go.ChangeAt Go.RowKit
open PHist PRing PSat PClamp PBound PFrame PVar PCrc PSign PTree PEv
set_option linter.unusedVariables false
set_option linter.unusedSimpArgs false

/-- Can one of the first k be read? -/
def St.freeTo (s : St) : Nat → Bool
  | 0 => false
  | k + 1 => s.freeTo k || (!(s.refused k) && decide (ss s.ps k < 2))
theorem freeTo_true (s : St) : ∀ k, s.freeTo k = true ↔ ∃ p : Nat, p < k ∧ s.refused p = false ∧ ss s.ps p < 2
  | 0 => Iff.intro (fun h => by cases h) (fun h => by obtain ⟨p, hp, -⟩ := h; exact (Nat.not_lt_zero _ hp).elim)
  | k + 1 => by
    unfold St.freeTo
    simp only [Bool.or_eq_true, Bool.and_eq_true, Bool.not_eq_true', decide_eq_true_eq]
    rw [freeTo_true s k]
    constructor
    · rintro (⟨p, h1, h2⟩ | h)
      · exact ⟨p, by omega, h2⟩
      · exact ⟨k, by omega, h⟩
    · rintro ⟨p, h1, h2⟩
      by_cases e : p = k
      · subst e; exact .inr h2
      · exact .inl ⟨p, by omega, h2⟩
theorem over_free {s : St} (h : s.Ok) (hf : s.Far) : (!(s.freeTo s.ps.length)) = true ↔ ∀ j, j < s.ps.length → 2 ≤ ss s.ps j := by
  constructor
  · intro h0 j hj
    apply Classical.byContradiction
    intro hn
    have := (freeTo_true s _).2 (free_one h hf hj (by omega))
    rw [this] at h0
    cases h0
  · intro h0
    cases h1 : s.freeTo s.ps.length
    · rfl
    · obtain ⟨p, hp, -, h2⟩ := (freeTo_true s _).1 h1
      have := h0 p hp
      omega
theorem free_next1 {s : St} {k : Nat} (h : s.freeTo k = true) : s.freeTo (k + 1) = true := by
  show (s.freeTo k || _) = true
  rw [h]; rfl
theorem free_next2 {s : St} {k : Nat} (h : s.freeTo k = false) (hr : s.refused k = true) : s.freeTo (k + 1) = false := by
  show (s.freeTo k || (!(s.refused k) && _)) = false
  rw [h, hr]; rfl
theorem free_next3 {s : St} {k : Nat} (h : s.freeTo k = false) (hr : s.refused k = false) : s.freeTo (k + 1) = decide (ss s.ps k < 2) := by
  show (s.freeTo k || (!(s.refused k) && _)) = _
  rw [h, hr]; rfl

section
variable {w0 w : World} {tag : Nat → Nat} {W : Nat → Nat → Prop} {ev : Value} {V : SrcV} {g : Nat} {s : St} {evs : List Ev} {beg : Nat}
theorem SrcI.is (h : SrcI w0 w tag W ev V g s evs beg) : ∀ j, j < (loOf s evs beg).n → 0 ≤ (loOf s evs beg).is j ∧ (loOf s evs beg).is j ≤ 3 := fun j hj => ⟨(h.ok.pt _ (pat_mem hj)).lo, (h.ok.pt _ (pat_mem hj)).hi⟩
theorem SrcI.refused (h : SrcI w0 w tag W ev V g s evs beg) (i : Int) (o : Bool) (ho : s.refused i = o) :
    Calls Tryz.prog 29 #[.pointer (some ⟨g, 0, none⟩), .int .i64 i] w fun e w' => e = .returned (.bool o) ∧ SrcI w0 w' tag W ev V g s evs beg :=
  (so_refused tag W ev V g _ i o w h.src (Nat.le_refl _) h.is ho).mono fun e w' k => ⟨k.1, h.on (on_quiet k.2)⟩
theorem SrcI.status (h : SrcI w0 w tag W ev V g s evs beg) (i : Nat) (hi : i < s.ps.length) :
    Calls Tryz.prog 25 #[.pointer (some ⟨g, 0, none⟩), .int .i64 i] w fun e w' => e = .returned (.int .i64 (ss s.ps i)) ∧ w = w' :=
  so_status tag W ev V g _ i _ w h.src (by rw [if_pos ⟨by omega, by show (i : Int) < (s.ps.length : Nat); omega⟩, Int.toNat_natCast]; rfl)
theorem SrcI.over (h : SrcI w0 w tag W ev V g s evs beg) (o : Bool) (ho : o = true ↔ ∀ j, j < s.ps.length → 2 ≤ ss s.ps j) :
    Calls Tryz.prog 31 #[.pointer (some ⟨g, 0, none⟩)] w fun e w' => e = .returned (.bool o) ∧ SrcI w0 w' tag W ev V g s evs beg :=
  (so_over tag W ev V g _ o w h.src (Nat.le_refl _) h.is ho).mono fun e w' k => ⟨k.1, h.on k.2⟩
theorem SrcI.do_ (h : SrcI w0 w tag W ev V g s evs beg) (x : Bool × Int) (hx : in64 x.2) (hb : evs.length ≤ 90000) :
    Calls Tryz.prog 21 #[.pointer (some ⟨g, 0, none⟩), .agg #[.bool x.1, .int .i64 x.2]] w fun e w' => ∃ v tag' W' ev', e = .returned v ∧ Sl w.heap.size w' 1 v (s.doE x).length ((s.doE x).map evv) ∧ SrcI w0 w' tag' W' ev' V g (s.doS x) (evs ++ s.doE x) beg ∧ Upd (fun b => tag b ≠ 0) w w' ∧ ∀ b, v.ownBlock = some b → tag' b = 0 :=
  (so_do tag W ev V g s evs beg x.1 x.2 w h.src h.ok hx hb).mono fun e w' k => h.did k
end
/-- What New makes of a case that is small. -/
theorem case_new (rs : List Rul) (t d : Int) (ls : List ByteArray) (a : Option Addr) (n c : Nat) (b : Option Addr) (m c2 : Nat) (w0 w : World) (hb : Below w0.heap.size w0 w) (h1 : RowU w0 a rs) (h2 : RowS w0 b ls) (hn : n = rs.length) (hm : m = ls.length) (hz : nerr rs t d m = 0) (h8 : m ≤ 8) (hf : ∀ r ∈ rs, r.Fits) (ht : in64 t) (hd : in64 d) (hs : ∀ s ∈ ls, s.size ≤ 400) :
    Calls Tryz.prog 14 #[.agg #[.slice a n c, .int .i64 t, .int .i64 d], .slice b m c2] w fun e w' => ∃ tag W ev V g, e = .returned (.tuple #[.pointer (some ⟨g, 0, none⟩), .int .i64 0]) ∧ SrcI w0 w' tag W ev V g (St.new t d rs (ls.map fun s => s.data.toList)) (St.newE t rs (ls.map fun s => s.data.toList)) (St.newE t rs (ls.map fun s => s.data.toList)).length ∧ Below w.heap.size w w' := by
  obtain ⟨hc0, hmn⟩ := nerr_zero hz
  have ht1 := ccheck_t hc0
  have hok : (St.new t d rs (ls.map fun s => s.data.toList)).Ok := new_ok (by rw [List.length_map]; omega) (by omega) (fun r hr => ⟨ccheck_ok hc0 r hr, hf r hr⟩) (fun l hl => by
    obtain ⟨s, hs', rfl⟩ := List.mem_map.1 hl
    exact hs s hs') ⟨ht1.2.1, ht.2⟩ ⟨ht1.2.2, hd.2⟩
  exact (so_new rs t d ls a n c b m c2 w (h1.below hb) (h2.below hb) hn hm hz h8 hf ht hd hs).mono fun e w' k => SrcI.of_new hb hok k
theorem new_plen {rs : List Rul} {t d : Int} {ls : List ByteArray} {m : Nat} (hm : m = ls.length) (hz : nerr rs t d m = 0) : (St.new t d rs (ls.map fun s => s.data.toList)).ps.length = m := by
  obtain ⟨hc0, hmn⟩ := nerr_zero hz
  show ((raws t rs _).map settled).length = m
  rw [List.length_map, raws_len (by rw [List.length_map]; omega)]
  exact hmn.symm
end Go.Proofs.YtoecikeleoaecaaGreat
