/- A source and its model, side by side: what comes out of choices, and of fewer. -/
import Derived.Test.YtoecikeleoaecaaGreatSpeaks24
namespace Go.Proofs.YtoecikeleoaecaaGreat
set_option maxRecDepth 4000
open Go.ChangeShapes Go.WideShapes Go.ChangeAt Go.RowKit
open PHist PRing PSat PClamp PBound PFrame PVar PCrc PSign PTree PEv
set_option linter.unusedVariables false
set_option linter.unusedSimpArgs false

theorem RowG.take {α : Type} {w : World} {m : Nat} {f : α → List Value} {a : Option Addr} {l : List α} (h : RowG w m f a l) (k : Nat) : RowG w m f a (l.take k) :=
  ⟨fun i hi => by
    rw [List.length_take] at hi
    rw [List.getElem_take]
    exact h.at_ i (by omega)⟩
theorem RowE.take {w : World} {a : Option Addr} {l m : List Ev} (h : RowE w a (l ++ m)) : RowE w a l :=
  ⟨fun i hi => by
    have h1 := h.at_ i (by rw [List.length_append]; omega)
    rw [List.getElem_append_left hi] at h1
    exact h1⟩
/-- Events, and an error or none. -/
def PlayZ (l : List Ev) (z : Int) (w : World) (e : Ending) (w' : World) : Prop := ∃ a c, e = .returned (.tuple #[.slice a l.length c, .int .i64 z]) ∧ l.length ≤ c ∧ c ≤ maxLen ∧ RowE w' a l ∧ Below w.heap.size w w'
theorem PlayZ.of {l : List Ev} {w : World} {e : Ending} {w' : World} (h : PlayPost l w e w') : PlayZ l 0 w e w' := by
  obtain ⟨v, h1, h2, h3⟩ := h
  obtain ⟨a, c, hv⟩ := h2.shape
  subst hv
  obtain ⟨-, a', c', hv, hr⟩ := rowe_of_sl h2
  cases hv
  exact ⟨a, c, h1, h2.cap.1, h2.cap.2, hr, h3⟩
theorem plays {w0 : World} {a : Option Addr} {n c : Nat} {t d : Int} {b : Option Addr} {m c2 : Nat} {q : Option Addr} {nq c3 : Nat} {rs : List Rul} {ls : List ByteArray} {cs : List (Bool × Int)} (hC : CaseC w0 a n c t d b m c2 q nq c3 rs ls cs) (hS : SmallC n m nq ls) (k : Nat) (hk : k ≤ nq) :
    ∃ (z : Int) (l1 l2 : List Ev), l1.length + l2.length ≤ 9000 ∧ (k = nq → l2 = []) ∧ (∀ wx c', Below w0.heap.size w0 wx → Calls Tryz.prog 16 #[.agg #[.slice a n c, .int .i64 t, .int .i64 d], .slice b m c2, .slice q k c'] wx (PlayZ l1 z wx)) ∧
      ∀ wx, Below w0.heap.size w0 wx → Calls Tryz.prog 34 #[.agg #[.slice a n c, .int .i64 t, .int .i64 d], .slice b m c2, .slice q nq c3] wx (PlayZ (l1 ++ l2) z wx) := by
  obtain ⟨s1, s2, s3, s4⟩ := hS
  by_cases hz : nerr rs t d m = 0
  · have hel := newE_len t rs (ls.map fun s => s.data.toList)
    have hmn := (nerr_zero hz).2
    have hq := hC.hnq
    have hr1 := runE_len (cs.take k) (St.new t d rs (ls.map fun s => s.data.toList))
    have hr2 := runE_len (cs.drop k) ((St.new t d rs (ls.map fun s => s.data.toList)).run (cs.take k))
    rw [List.length_take] at hr1
    rw [List.length_drop] at hr2
    refine ⟨0, St.newE t rs (ls.map fun s => s.data.toList) ++ (St.new t d rs (ls.map fun s => s.data.toList)).runE (cs.take k), ((St.new t d rs (ls.map fun s => s.data.toList)).run (cs.take k)).runE (cs.drop k), by rw [List.length_append]; omega, fun e => ?_, fun wx c' hx => ?_, fun wx hx => ?_⟩
    · rw [List.drop_eq_nil_of_le (by omega)]; rfl
    · exact (so_play rs t d ls (cs.take k) a n c b m c2 q k c' wx (hC.hru.below hx) (hC.hlo.below hx) ((hC.hch.below hx).take k) hC.hn hC.hm (by rw [List.length_take]; omega) hz s1 hC.hfit hC.ht hC.hd s4 (fun x hx => hC.hci x (List.mem_of_mem_take hx)) (by omega)).mono fun e w' h => PlayZ.of h
    · refine (mo_play rs t d ls cs a n c b m c2 q nq c3 wx (hC.hru.below hx) (hC.hlo.below hx) (hC.hch.below hx) hC.hn hC.hm hq hz s1 hC.hfit hC.ht hC.hd s4 hC.hci (by omega)).mono fun e w' h => ?_
      have e1 : St.newE t rs (ls.map fun s => s.data.toList) ++ (St.new t d rs (ls.map fun s => s.data.toList)).runE cs = St.newE t rs (ls.map fun s => s.data.toList) ++ (St.new t d rs (ls.map fun s => s.data.toList)).runE (cs.take k) ++ ((St.new t d rs (ls.map fun s => s.data.toList)).run (cs.take k)).runE (cs.drop k) := by
        rw [List.append_assoc, ← runE_append, List.take_append_drop]
      rw [e1] at h
      exact PlayZ.of h
  · refine ⟨nerr rs t d m, [], [], Nat.zero_le _, fun _ => rfl, fun wx c' hx => ?_, fun wx hx => ?_⟩
    · exact (so_play_none rs t d ls a n c b m c2 (.slice q k c') wx (hC.hru.below hx) hC.hn (by omega) hC.hm _ rfl hz).mono fun e w' h => ⟨none, 0, h.1, Nat.le_refl _, Nat.zero_le _, RowE.nil _ _, h.2⟩
    · exact (mo_play_none rs t d a n c b m c2 (.slice q nq c3) wx (hC.hru.below hx) hC.hn (by omega) _ rfl hz).mono fun e w' h => ⟨none, 0, h.1, Nat.le_refl _, Nat.zero_le _, RowE.nil _ _, h.2⟩
end Go.Proofs.YtoecikeleoaecaaGreat
