/- varint: the laws' own first question; numbers put into slices that the law has. -/
import Derived.Test.YtfgmbmpbgokolaaVar3
import Derived.Test.YtfgmbmpbgokolaaBytes
import Derived.Deep.RegionWith
import Derived.Deep.DeepCutAuto
namespace Go.Proofs.Ytfgmbmpbgokolaa
open Go.ChangeShapes Go.WideShapes Go.ChangeAt Go.RowKit
open PVar
set_option linter.unusedVariables false

theorem digs_129 : digs 129 = [129, 1] := by rw [digs_high (by omega), digs_low (by omega)]; rfl

/-- What PutInt leaves, where it is read as a text. -/
theorem put_string {B : Nat} {w : World} {v : Value} {n : Nat} {l : List UInt8} {m : Nat} {e : Ending} {w' : World} (h : PutPost B w v n (bv l) m e w') :
    ∃ v', e = .returned v' ∧ Sl B w' 1 v' (n + (digs m).length) (bv (l ++ digs m)) ∧ (convert 38 9 v').run Try.prog w' = .ok (.string (bstr (l ++ digs m))) w' ∧
      Upd (fun k => v.ownBlock = some k) w w' ∧ (∀ k, v'.ownBlock = some k → v.ownBlock = some k ∨ w.heap.size ≤ k) := by
  obtain ⟨v', h1, h2, h3, h4⟩ := h
  rw [← bv_append] at h2
  exact ⟨v', h1, h2, sl_string h2 38 9 5 Try.underlying38 Try.underlying5 Try.underlying9, h3, h4⟩

theorem putint_nil (m : Int) (w : World) (hm : -9223372036854775808 ≤ m ∧ m ≤ 9223372036854775807) : Calls Try.prog 23 #[.slice none 0 0, .int .i64 m] w (PutPost w.heap.size w (.slice none 0 0) 0 (bv []) (fold m)) :=
  var_putint w.heap.size _ 0 _ m w (Sl.nil _ _ _) hm (by omega) (Nat.le_refl _)

/-- A slice of bytes that the call owns, read as a text now and behind one more such slice's making. -/
theorem sl_texts {B : Nat} {w : World} {v : Value} {n : Nat} {l : List UInt8} (h : Sl B w 1 v n (bv l)) (s : ByteArray) :
    (convert 38 9 v).run Try.prog w = .ok (.string (bstr l)) w ∧
    (convert 38 9 v).run Try.prog (Lib.bytesWorld w 5 s) = .ok (.string (bstr l)) (Lib.bytesWorld w 5 s) :=
  ⟨sl_string h _ _ _ Try.underlying38 Try.underlying5 Try.underlying9,
   sl_string (h.upd (bytes_upd (fun _ => False) w s _) (fun _ _ h => h)) _ _ _ Try.underlying38 Try.underlying5 Try.underlying9⟩

/-- A number put into no slice, as a text. -/
theorem put_nil (m : Nat) (w : World) (hm : m ≤ 18446744073709551615) : Calls Try.prog 24 #[.slice none 0 0, .int .u64 m] w fun e w' =>
    ∃ v', e = .returned v' ∧ (convert 38 9 v').run Try.prog w' = .ok (.string (bstr (digs m))) w' ∧ Below w.heap.size w w' :=
  (var_put w.heap.size _ 0 (bv []) m w (Sl.nil _ _ _) hm (by omega) (Nat.le_refl _)).mono fun e w' h => by
    obtain ⟨v', he, _, kc, hu, _⟩ := put_string (l := []) h
    exact ⟨v', he, kc, upd_nil hu⟩

end Go.Proofs.Ytfgmbmpbgokolaa
