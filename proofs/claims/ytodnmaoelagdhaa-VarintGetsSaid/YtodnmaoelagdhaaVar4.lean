/- varint: the laws' own first question; numbers put into slices that the law has. -/
import Derived.Test.YtodnmaoelagdhaaVar3
import Derived.Deep.RegionWith
import Derived.Deep.DeepCutAuto
namespace Go.Proofs.Ytodnmaoelagdhaa
open Go.ChangeShapes Go.WideShapes Go.ChangeAt Go.RowKit
open PVar
set_option linter.unusedVariables false

theorem digs_129 : digs 129 = [129, 1] := by rw [digs_high (by omega), digs_low (by omega)]; rfl

/-- What PutInt leaves, where it is read as a text. -/
theorem put_string {B : Nat} {w : World} {v : Value} {n : Nat} {l : List UInt8} {m : Nat} {e : Ending} {w' : World} (h : PutPost B w v n (bv l) m e w') :
    ∃ v', e = .returned v' ∧ Sl B w' 1 v' (n + (digs m).length) (bv (l ++ digs m)) ∧ (convert 40 9 v').run Try.prog w' = .ok (.string (bstr (l ++ digs m))) w' ∧
      Upd (fun k => v.ownBlock = some k) w w' ∧ (∀ k, v'.ownBlock = some k → v.ownBlock = some k ∨ w.heap.size ≤ k) := by
  obtain ⟨v', h1, h2, h3, h4⟩ := h
  rw [← bv_append] at h2
  exact ⟨v', h1, h2, sl_string h2 40 9 5 Try.underlying40 Try.underlying5 Try.underlying9, h3, h4⟩

theorem upd_nil {w w' : World} (h : Upd (fun k => (Value.slice none 0 0).ownBlock = some k) w w') : Below w.heap.size w w' :=
  h.below (Nat.le_refl _) (fun k _ hk => by simp [Value.ownBlock] at hk)

theorem putint_nil (m : Int) (w : World) (hm : -9223372036854775808 ≤ m ∧ m ≤ 9223372036854775807) : Calls Try.prog 22 #[.slice none 0 0, .int .i64 m] w (PutPost w.heap.size w (.slice none 0 0) 0 (bv []) (fold m)) :=
  var_putint w.heap.size _ 0 _ m w (Sl.nil _ _ _) hm (by omega) (Nat.le_refl _)

/-- A text, as a slice of bytes of the call's own. -/
theorem bytes_sl {B : Nat} (w : World) (s : ByteArray) (e : TypeId) (hB : B ≤ w.heap.size) (hs : s.size ≤ maxLen) : Sl B (Lib.bytesWorld w e s) 1 (.slice (some ⟨w.heap.size, 0, none⟩) s.size (grownCap w s.size 0 e)) s.size (bv s.data.toList) := by
  have hge := grownCap_ge w s.size 0 e
  have hcm := grownCap_le_maxLen w s.size 0 e hs
  have hnew := Lib.bytesWorld_at_new w e s
  have hsz : (Lib.bytesCells w e s).size = grownCap w s.size 0 e := by
    simp [Lib.bytesCells]; omega
  refine ⟨by rw [bv_len]; simp, .inr ⟨w.heap.size, 0, _, rfl, hB, by rw [Lib.bytesWorld_size]; omega, hge, hcm, fun j hj => ?_, fun j hj => ⟨?_, ?_⟩⟩⟩
  · have hj' : j < s.size := by omega
    rw [Nat.zero_add, Lib.bytesWorld_cell w e s j hj']
    have hj'' : j < s.data.size := hj'
    simp [bv, Array.getElem?_eq_getElem hj'']
  · rw [Nat.zero_add, cell_of_row _ _ _ _ _ _ hnew, Array.getElem?_eq_getElem (by omega)]
    rfl
  · simp only [World.frozen?, hnew]
    simp
    omega

theorem bytes_upd (S : Nat → Prop) (w : World) (s : ByteArray) (e : TypeId) : Upd S w (Lib.bytesWorld w e s) :=
  ⟨rfl, rfl, rfl, by rw [Lib.bytesWorld_size]; omega, fun k hk _ => Lib.bytesWorld_at_old w e s k hk⟩

theorem bytes_run (w : World) (s : ByteArray) : (convert 9 40 (.string s)).run Try.prog w = .ok (.slice (some ⟨w.heap.size, 0, none⟩) s.size (grownCap w s.size 0 5)) (Lib.bytesWorld w 5 s) :=
  Lib.run_convert_string_bytes w 9 40 5 s Try.underlying9 Try.underlying40 Try.underlying5

theorem bytes_below {B : Nat} {a w : World} (h : Below B a w) (hB : B ≤ a.heap.size) (s : ByteArray) (e : TypeId) : Below B a (Lib.bytesWorld w e s) :=
  h.upd (bytes_upd (fun _ => False) w s e) (Nat.le_trans hB h.size) (fun _ _ h => h.elim)

/-- A slice of bytes that the call owns, read as a text now and behind one more such slice's making. -/
theorem sl_texts {B : Nat} {w : World} {v : Value} {n : Nat} {l : List UInt8} (h : Sl B w 1 v n (bv l)) (s : ByteArray) :
    (convert 40 9 v).run Try.prog w = .ok (.string (bstr l)) w ∧
    (convert 40 9 v).run Try.prog (Lib.bytesWorld w 5 s) = .ok (.string (bstr l)) (Lib.bytesWorld w 5 s) :=
  ⟨sl_string h _ _ _ Try.underlying40 Try.underlying5 Try.underlying9,
   sl_string (h.upd (bytes_upd (fun _ => False) w s _) (fun _ _ h => h)) _ _ _ Try.underlying40 Try.underlying5 Try.underlying9⟩

/-- A number put into no slice, as a text. -/
theorem put_nil (m : Nat) (w : World) (hm : m ≤ 18446744073709551615) : Calls Try.prog 21 #[.slice none 0 0, .int .u64 m] w fun e w' =>
    ∃ v', e = .returned v' ∧ (convert 40 9 v').run Try.prog w' = .ok (.string (bstr (digs m))) w' ∧ Below w.heap.size w w' :=
  (var_put w.heap.size _ 0 (bv []) m w (Sl.nil _ _ _) hm (by omega) (Nat.le_refl _)).mono fun e w' h => by
    obtain ⟨v', he, _, kc, hu, _⟩ := put_string (l := []) h
    exact ⟨v', he, kc, upd_nil hu⟩

set_option maxRecDepth 100000 in
set_option maxHeartbeats 1000000 in
theorem speaks2 (w : World) : Calls Try.prog 16 #[] w fun e w' => e = .returned (.bool true) ∧ Below w.heap.size w w' := by
  have h1 : ∀ w, Calls Try.prog 19 #[.string ⟨#[129, 1]⟩] w fun e w' => e = .returned (.tuple #[.int .i64 (-65), .int .i64 2, .int .i64 0]) ∧ w = w' := fun w => var_getint _ w (by decide)
  have hp : ∀ e w', PutPost w.heap.size w (.slice none 0 0) 0 (bv []) (fold (-65)) e w' → ∃ v', e = .returned v' ∧ (convert 40 9 v').run Try.prog w' = .ok (.string ⟨#[129, 1]⟩) w' ∧ Below w.heap.size w w' := by
    intro e w' h
    obtain ⟨v', he, _, kc, hu, _⟩ := put_string h
    rw [show fold (-65) = 129 from rfl, digs_129] at kc
    exact ⟨v', he, kc, upd_nil hu⟩
  have HP := Lib.hid hp
  clear hp
  go_enter Try.func16, Try.ntmps16
  go_wp2_with (first | (go_at_call 19; refine (h1 _).mono ?_; rintro e w' ⟨rfl, rfl⟩) | (go_at_call 22; refine (putint_nil _ _ (by omega)).mono ?_; intro e w1 hpp; obtain ⟨v1, rfl, kc, hb⟩ := HP.out _ _ hpp))
  go_ret
  exact ⟨rfl, hb⟩
end Go.Proofs.Ytodnmaoelagdhaa
