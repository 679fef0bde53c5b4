/- String of a builder: what lies behind the builder stands as it stood. -/
import Derived.Test.YtcigklninmddaaaGreatDoorTold1
import Derived.Test.YtcigklninmddaaaGreatDoorWEventBack
import Derived.Lib.UnsafeStr
namespace Go.Proofs.YtcigklninmddaaaGreatDoor
set_option maxRecDepth 4000
open Go.ChangeShapes Go.WideShapes Go.ChangeAt Go.RowKit
open PWord PQuote PSign PEv PVar PCrc PFrame
set_option linter.unusedVariables false
set_option linter.unusedSimpArgs false

theorem freeze_other (w : World) (p : Addr) (n k : Nat) (h : k ≠ p.block) : (w.freeze p n).heap[k]? = w.heap[k]? := by
  unfold World.freeze
  split
  · rfl
  · simp only [Array.getElem?_modify]
    rw [if_neg (by omega)]

set_option maxHeartbeats 2000000 in
set_option maxRecDepth 100000 in
theorem b_text_keep (B b : Nat) (l : List UInt8) (w0 w : World) (h : Bld B b l w0) (hb : Below w0.heap.size w0 w) (h0 : l ≠ []) :
    Calls Tryz.prog 20 #[.pointer (some ⟨b, 0, none⟩)] w fun e w' => e = .returned (.string (bstr l)) ∧ Below B w w' ∧ ∀ k, w0.heap.size ≤ k → w'.heap[k]? = w.heap[k]? := by
  obtain ⟨p, hB, v, hbk0, hown0, hne⟩ : ∃ p, Lib.BuilderAtF 46 5 B b p (Lib.byteCells l) w0 := h.elim (fun h => ⟨_, h⟩) (fun h => ⟨_, h⟩)
  have keep : ∀ k o, w0.heap[k]? = some o → w.heap[k]? = some o := fun k o hk => by rw [hb.block k (Array.getElem?_eq_some_iff.1 hk).1]; exact hk
  have hbk := keep _ _ hbk0
  have hl0 : l.length ≠ 0 := by simpa using h0
  obtain ⟨ho1, ho2⟩ := hown0
  obtain ⟨g, cap, cur, fz, rfl, hbg, hg0, hr⟩ : ∃ g cap cur fz, v = .slice (some ⟨g, 0, none⟩) (Lib.byteCells l).length cap ∧ B ≤ g ∧ w0.heap[g]? = some (.cells cur 5 fz) ∧ (fz.2 ≤ (Lib.byteCells l).length * 1 ∧ (Lib.byteCells l).length ≤ cap ∧ cap ≤ maxLen ∧ cur.size = cap * 1 ∧ cur.toList.take ((Lib.byteCells l).length * 1) = Lib.byteCells l) := by
    rcases ho2 with ⟨_, hz⟩ | ⟨g, cap, cur, fz, hv, r1, r2, r⟩
    · rw [Lib.byteCells_length] at hz; exact absurd hz hl0
    · exact ⟨g, cap, cur, fz, hv, r1, r2, r⟩
  have hgl : g < w0.heap.size := (Array.getElem?_eq_some_iff.1 hg0).1
  have hg := keep _ _ hg0
  have hown : w.ownsRowF B 5 1 (.slice (some ⟨g, 0, none⟩) (Lib.byteCells l).length cap) (Lib.byteCells l).length (Lib.byteCells l) := ⟨ho1, .inr ⟨g, cap, cur, fz, rfl, hbg, hg, hr⟩⟩
  rw [Lib.byteCells_length] at hown hbk hr
  obtain ⟨hfz, hnc, hcm, hcs, htake⟩ := hr
  have c1 : w.drew.cell? ⟨b, 1, none⟩ = some (.slice (some ⟨g, 0, none⟩) l.length cap) := by
    have : w.drew.heap[b]? = some (.cells #[p, .slice (some ⟨g, 0, none⟩) l.length cap] 46 (0, 0)) := hbk
    rw [Lib.cell_of_heap this]; rfl
  have hSD : (Builtin.unsafeSliceData_ #[44] 89 #[.slice (some ⟨g, 0, none⟩) l.length cap]).run Tryz.prog w.drew = .ok (.pointer (some ⟨g, 0, none⟩)) w.drew :=
    Lib.run_unsafeSliceData_row _ _ _ _ _ _ (by omega)
  have hUS : (Builtin.unsafeString_ #[89, 3] 9 #[.pointer (some ⟨g, 0, none⟩), .int .i64 l.length]).run Tryz.prog w.drew = .ok (.string (bstr l)) (w.drew.freeze ⟨g, 0, none⟩ l.length) := by
    refine Lib.run_unsafeString_row (w := w.drew) 89 3 9 5 Tryz.underlying89 (by kernel_rfl) g cur.size (by have hg' : w.drew.heap[g]? = some (.cells cur 5 fz) := hg; simp [World.shape?, hg']) l h0 (by omega) (by unfold maxLen at hcm; omega) ?_
    intro j x hx
    exact hown.cells (g := g) rfl j (.int .u8 x.toNat) (by simp [Lib.byteCells, hx])
  have hE := freeze_other w.drew ⟨g, 0, none⟩ l.length
  go_enter Tryz.func20, Tryz.ntmps20
  go_wp2
  go_region
  all_goals (go_wp2; go_ret; exact ⟨rfl, Lib.below_freeze (Below.drew (Below.refl B w)) (p := ⟨g, 0, none⟩) hbg _, fun k hk => hE k (fun (e : k = g) => by omega)⟩)

theorem at_same {w w' : World} {g : Nat} {l : List Value} (h : At w g l) (e : w'.heap[g]? = w.heap[g]?) : At w' g l := by
  refine ⟨?_, fun i hi => ?_⟩
  · have hg := h.1
    have : (w'.heap[g]?).isSome = true := by rw [e]; simp [hg]
    simpa using this
  · obtain ⟨a, c⟩ := h.2 i hi
    exact ⟨(World.cell?_of_block (w := w) e).trans a, (World.frozen?_of_block (w := w) e).trans c⟩
theorem rowr_same {w w' : World} {a : Option Addr} {rs : List R} {B : Nat} (h : RowR w a rs) (hf : ∀ q, a = some q → B ≤ q.block) (e : ∀ k, B ≤ k → w'.heap[k]? = w.heap[k]?) : RowR w' a rs :=
  ⟨h.len, fun i hi => by
    obtain ⟨b, off, h1, h2, h3, h4, h5⟩ := h.at_ i hi
    have hb : B ≤ b := hf _ h1
    have e' := e b hb
    have hs : b < w'.heap.size := by
      have : (w'.heap[b]?).isSome = true := by rw [e']; simp [h2]
      simpa using this
    exact ⟨b, off, h1, hs, (World.cell?_of_block (w := w) (a := ⟨b, _, none⟩) e').trans h3, (World.cell?_of_block (w := w) (a := ⟨b, _, none⟩) e').trans h4, (World.cell?_of_block (w := w) (a := ⟨b, _, none⟩) e').trans h5⟩, h.tm⟩

/-- String, with a row of records and a struct behind the builder. -/
theorem b_text_row (B b : Nat) (l : List UInt8) (a : Option Addr) (rs : List R) (g : Nat) (xs : List Value) (T : TypeId) (w0 w : World) (h : Bld B b l w0) (hb : Below w0.heap.size w0 w) (hBw : B ≤ w0.heap.size) (h0 : l = [] → rs = []) (hr : RowR w a rs) (hf : ∀ q, a = some q → w0.heap.size ≤ q.block) (hg : w0.heap.size ≤ g) (hgb : g ≠ b) (hat : At w g xs) (hk : KindAt w g T) (hT : T ≠ 5) :
    Calls Tryz.prog 20 #[.pointer (some ⟨b, 0, none⟩)] w fun e w' => e = .returned (.string (bstr l)) ∧ Below B w w' ∧ RowR w' a rs ∧ At w' g xs := by
  by_cases hl : l = []
  · obtain rfl := h0 hl
    have hw : Bld B b l w := bld_on h hb
    subst hl
    refine (Tryz.Builder_String_empty_k B b w hw (Nat.le_trans hBw hb.size)).mono ?_
    rintro e w' ⟨h1, h2, h3, h4⟩
    exact ⟨h1, h3, ⟨hr.len, fun i hi => absurd hi (Nat.not_lt_zero _), hr.tm⟩, hat.kept hk hT h4 hgb⟩
  · refine (b_text_keep B b l w0 w h hb hl).mono ?_
    rintro e w' ⟨h1, h2, h3⟩
    exact ⟨h1, h2, rowr_same hr hf h3, at_same hat (h3 g hg)⟩

/-! ### The lines of a text -/
structure RowLn (w : World) (a : Option Addr) (L : List Ev) : Prop where
  at_ : ∀ (i : Nat) (h : i < L.length), ∃ b off, a = some ⟨b, off, none⟩ ∧ b < w.heap.size ∧ w.cell? ⟨b, off + i, none⟩ = some (.string (bstr (eline L[i])))
theorem RowLn.on {w w' : World} {a : Option Addr} {l : List Ev} (h : RowLn w a l) (hb : Below w.heap.size w w') : RowLn w' a l :=
  ⟨fun i hi => by
    obtain ⟨b, off, h1, h2, h3⟩ := h.at_ i hi
    exact ⟨b, off, h1, Nat.lt_of_lt_of_le h2 hb.size, by rw [hb.cell (p := ⟨b, off + i, none⟩) h2]; exact h3⟩⟩
def PartedL (N : Nat) (L : List Ev) (w : World) (e : Ending) (w' : World) : Prop :=
  ∃ a c, e = .returned (.slice a N c) ∧ N ≤ c ∧ c ≤ 100000 ∧ RowLn w' a L ∧ Below w.heap.size w w'
theorem split_lines (L : List Ev) (N : Nat) (hN : L.length + 1 = N) (w : World) (he : EnvW w) (hl : (etexts L).length ≤ 90000) :
    Calls Tryz.prog 19 #[.string (bstr (etexts L)), .string ⟨#[10]⟩] w (PartedL N L w) := by
  refine (li_split (bstr (etexts L)) _ w (by rw [bstr_len]; exact hl) he (lines_cut L)).mono ?_
  rintro e w' ⟨g, c, ws, h1, h2, h3, h4, h5, h6, h7⟩
  have hlen : ws.length = N := by
    have := congrArg List.length h2
    simp only [List.length_map, List.length_append, List.length_cons, List.length_nil] at this
    omega
  rw [hlen] at h1 h4
  refine ⟨_, c, h1, h4, h5, ⟨fun i hi => ?_⟩, h7⟩
  obtain ⟨b, off, k1, k2, k3⟩ := h3.at_ i (by omega)
  refine ⟨b, off, k1, k2, ?_⟩
  have hi2 : i < (ws.map (·.data.toList)).length := by rw [List.length_map]; omega
  have e1 : (ws.map (·.data.toList))[i] = eline L[i] := by
    have : (ws.map (·.data.toList))[i]? = some (eline L[i]) := by rw [h2, List.getElem?_append_left (by rw [List.length_map]; exact hi)]; simp [hi]
    rw [List.getElem?_eq_getElem hi2] at this
    exact Option.some.inj this
  rw [List.getElem_map] at e1
  rw [k3, ← e1]
/-- What the typed events are, their number known. -/
def OfP (n sz : Nat) (l : List Ev) (w : World) (e : Ending) (w' : World) : Prop :=
  ∃ a c, e = .returned (.slice a n c) ∧ Sl w.heap.size w' sz (.slice a n c) n (vcells l) ∧ Below w.heap.size w w'
theorem OfPost.p {K sz : Nat} {l L : List Ev} {n : Nat} {w w' : World} {e : Ending} (h : OfPost K sz l w e w') (hs : sel K l = L) (hn : L.length = n) : OfP n sz L w e w' := by
  obtain ⟨v, h1, h2, h3⟩ := h
  rw [hs, hn] at h2
  obtain ⟨a, c, rfl⟩ := h2.shape
  exact ⟨a, c, h1, h2, h3⟩
theorem endOf_none (part : Int) : endOf part 0 = [] := rfl
theorem endOf_one (part : Int) {er : Nat} (h : er ≠ 0) : endOf part er = [.fault part er] := by unfold endOf; rw [if_neg h]
theorem evsOf_part (part : Int) (rs : List R) (er : Nat) : ∀ v ∈ evsOf part rs er, epart v = part := by
  intro v hv
  rcases List.mem_append.1 hv with h | h
  · obtain ⟨r, _, rfl⟩ := List.mem_map.1 h; rfl
  · unfold endOf at h
    split at h
    · cases h
    · rw [List.mem_singleton] at h; subst h; rfl
theorem etexts_none {l : List Ev} (h : etexts l = []) : l = [] := by
  cases l with
  | nil => rfl
  | cons v l =>
    have := congrArg List.length h
    simp [etexts] at this
end Go.Proofs.YtcigklninmddaaaGreatDoor
