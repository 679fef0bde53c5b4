/- What many texts use: endings, rows of bytes, slices of bytes that a call owns and texts. -/
import Derived.Test.YthpnkjnieljdiaaMem
import Derived.Lib.Strings
import Derived.Lib.Hide
namespace Go.Proofs.Ythpnkjnieljdiaa
open Go.ChangeShapes Go.WideShapes Go.ChangeAt Go.RowKit
set_option linter.unusedVariables false

theorem ret_int {k : IntKind} {a b : Int} (h : a = b) : Ending.returned (.int k a) = .returned (.int k b) := by rw [h]

theorem ret_true {b : Bool} (h : b = true) : Ending.returned (.bool b) = .returned (.bool true) := by rw [h]

theorem ret_bool {a b : Bool} (h : a = b) : Ending.returned (.bool a) = .returned (.bool b) := by rw [h]

theorem drop_cons (s : ByteArray) (k : Nat) (h : k < s.size) : s.data.toList.drop k = s[k] :: s.data.toList.drop (k + 1) := by
  rw [List.drop_eq_getElem_cons (by simpa using h)]; rfl

def bv (l : List UInt8) : List Value := l.map fun b => Value.int .u8 (b.toNat : Int)
theorem bv_append (a b : List UInt8) : bv (a ++ b) = bv a ++ bv b := List.map_append
theorem bv_len (a : List UInt8) : (bv a).length = a.length := List.length_map _

/-- What one cell, newly laid, yields to an append. -/
theorem src_one {P : Program} {tx e' : TypeId} (hk : P.underlying tx = some (.slice e')) (w : World) (u : Value) (e : TypeId) (hu : u.oneCell' = true) : Src P 1 tx (.slice (some ⟨w.heap.size, 0, none⟩) 1 1) 1 [u] (w.alloc (.cells #[u] e)) := by
  refine Src.ofSlice _ hk ⟨w.heap.size, 0, none⟩ 1 1 [u] rfl (fun j x hx => ?_) (fun x hx => by simp at hx; subst hx; exact hu)
  match j, hx with
  | 0, hx =>
    simp at hx
    subst hx
    rw [show (Addr.mk w.heap.size 0 none).add 0 = ⟨w.heap.size, 0, none⟩ from rfl, cell_of_row _ w.heap.size 0 #[u] e (0, 0) (heap_alloc_new w _)]
    rfl

/-- The text of these bytes. -/
abbrev bstr (l : List UInt8) : ByteArray := ⟨l.toArray⟩

/-- A slice of bytes, as a text. -/
theorem sl_string {P : Program} {B : Nat} {w : World} {v : Value} {n : Nat} {l : List UInt8} (h : Sl B w 1 v n (bv l)) (src dst e : TypeId) (hs : P.underlying src = some (.slice e)) (he : P.underlying e = some (.int .u8)) (hd : P.underlying dst = some .string) :
    (convert src dst v).run P w = .ok (.string (bstr l)) w := by
  have hl : l.length = n := by have := h.1; rw [bv_len] at this; omega
  rcases h.2 with ⟨rfl, rfl⟩ | ⟨g, off, cap, rfl, hb, hg, h1, h2, h3, h4⟩
  · have : l = [] := List.eq_nil_of_length_eq_zero hl
    subst this
    rw [run_convert_bytes_string w src dst e none 0 0 hs he hd]
    simp [Conv.bytesToString]
    rfl
  · have := run_convert_bytes_back (P := P) w src dst e ⟨g, off, none⟩ cap l hs he hd (fun j hj => by
      rw [Addr.add_lit, h3 j (by omega)]
      simp [bv, hj])
    rw [hl] at this
    exact this

theorem upd_nil {w w' : World} (h : Upd (fun k => (Value.slice none 0 0).ownBlock = some k) w w') : Below w.heap.size w w' :=
  h.below (Nat.le_refl _) (fun k _ hk => by simp [Value.ownBlock] at hk)

/-- A text, as a slice of bytes of the call's own. -/
theorem bytes_sl {B : Nat} (w : World) (s : ByteArray) (e : TypeId) (hB : B ≤ w.heap.size) (hs : s.size ≤ maxLen) : Sl B (Lib.bytesWorld w e s) 1 (.slice (some ⟨w.heap.size, 0, none⟩) s.size (grownCap w s.size 0 e)) s.size (bv s.data.toList) := by
  have hge := grownCap_ge w s.size 0 e
  have hcm := grownCap_le_maxLen w s.size 0 e hs
  have hnew := Lib.bytesWorld_at_new w e s
  have hsz : (Lib.bytesCells w e s).size = grownCap w s.size 0 e := by
    simp [Lib.bytesCells]; omega
  refine ⟨by rw [bv_len]; simp, .inr ⟨w.heap.size, 0, _, rfl, hB, by rw [Lib.bytesWorld_size]; omega, hge, hcm, fun j hj => ?_, fun j hj => ⟨?_, ?_⟩⟩⟩
  · have hj' : j < s.size := by omega
    rw [Nat.zero_add, Lib.bytesWorld_cell w e s j hj']
    have hj'' : j < s.data.size := hj'
    simp [bv, Array.getElem?_eq_getElem hj'']
  · rw [Nat.zero_add, cell_of_row _ _ _ _ _ _ hnew, Array.getElem?_eq_getElem (by omega)]
    rfl
  · simp only [World.frozen?, hnew]
    simp
    omega

theorem bytes_upd (S : Nat → Prop) (w : World) (s : ByteArray) (e : TypeId) : Upd S w (Lib.bytesWorld w e s) :=
  ⟨rfl, rfl, rfl, by rw [Lib.bytesWorld_size]; omega, fun k hk _ => Lib.bytesWorld_at_old w e s k hk⟩

theorem bytes_below {B : Nat} {a w : World} (h : Below B a w) (hB : B ≤ a.heap.size) (s : ByteArray) (e : TypeId) : Below B a (Lib.bytesWorld w e s) :=
  h.upd (bytes_upd (fun _ => False) w s e) (Nat.le_trans hB h.size) (fun _ _ h => h.elim)

/-- One call behind another. -/
theorem on_below {a w w' : World} (h : Below a.heap.size a w) (k : Below w.heap.size w w') : Below a.heap.size a w' := h.trans (k.mono h.size)
theorem un_drew {a w : World} (h : Below a.heap.size a.drew w) : Below a.heap.size a w := ⟨h.os, h.tape, h.output, h.size, h.block⟩

end Go.Proofs.Ythpnkjnieljdiaa
