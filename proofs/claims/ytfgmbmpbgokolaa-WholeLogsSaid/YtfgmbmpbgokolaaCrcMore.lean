/- Sums that are known; a seal opened; a row of bytes as a text. -/
import Derived.Test.YtfgmbmpbgokolaaCrc3
namespace Go.Proofs.Ytfgmbmpbgokolaa
open Go.ChangeShapes Go.WideShapes Go.ChangeAt Go.RowKit
open PCrc
set_option linter.unusedVariables false

theorem own_string {P : Program} {w : World} {g off n : Nat} {f : Nat → Value} (h : Own w g off n f) (l : List UInt8) (hl : l.length ≤ n) (hf : ∀ j (hj : j < l.length), f j = .int .u8 (l[j].toNat : Int)) (cap : Nat) (src dst e : TypeId)
    (hs : P.underlying src = some (.slice e)) (he : P.underlying e = some (.int .u8)) (hd : P.underlying dst = some .string) :
    (convert src dst (.slice (some ⟨g, off, none⟩) l.length cap)).run P w = .ok (.string (bstr l)) w :=
  run_convert_bytes_back (P := P) w src dst e ⟨g, off, none⟩ cap l hs he hd (fun j hj => by
    rw [Addr.add_lit, h.cell j (by omega), hf j hj])

/-! ### What the laws ask first -/

def iterS : Nat → Nat → Nat
  | 0, r => r
  | n + 1, r => iterS n (cst r)
theorem iterS_eq : ∀ n r, iter n r = iterS n r
  | 0, r => iter_0 r
  | n + 1, r => (iter_1 n r).trans (iterS_eq n (cst r))
def regS (r : Nat) (l : List UInt8) : Nat := l.foldl (fun r c => iterS 8 (r ^^^ c.toNat)) r
theorem regS_eq : ∀ (l : List UInt8) (r : Nat), PCrc.reg r l = regS r l
  | [], r => rfl
  | c :: l, r => by
    show PCrc.reg (PCrc.upd r c.toNat) l = regS (iterS 8 (r ^^^ c.toNat)) l
    rw [upd_iter r c.toNat c.toNat_lt, iterS_eq, regS_eq l]
theorem sum_nine : PCrc.sum [49, 50, 51, 52, 53, 54, 55, 56, 57] = 3421780262 := by
  unfold PCrc.sum
  rw [regS_eq]
  decide +kernel
theorem sld_nil : sld [] = [0, 0, 0, 0] := by
  unfold sld
  have : PCrc.sum [] = 0 := by decide
  rw [this]
  decide

theorem bstr_data (s : ByteArray) : bstr s.data.toList = s := rfl

theorem crc_open_sld (g : Nat) (s : ByteArray) (w : World) (ht : Tab w g) (hs : s.size ≤ 4096) :
    Calls Try.prog 29 #[.pointer (some ⟨g, 0, none⟩), .string (bstr (sld s.data.toList))] w fun e w' => e = .returned (.tuple #[.string s, .bool true]) ∧ Below w.heap.size w w' := by
  have h := crc_open g (bstr (sld s.data.toList)) w ht (by
    show (sld s.data.toList).toArray.size ≤ _
    rw [List.size_toArray, sld_len]
    have : s.data.toList.length = s.size := by simp
    omega)
  have e : (bstr (sld s.data.toList)).data.toList = sld s.data.toList := rfl
  rw [e, opened_sld, opn_sld] at h
  exact h

theorem tab_drewN {w : World} {g : Nat} (h : Tab w g) (n : Nat) : Tab (w.drewN n) g := Own.drewN h n
theorem tab_on {B : Nat} {w w' : World} {g : Nat} (h : Tab w g) (hb : Below w.heap.size w w') : Tab w' g := Own.below h hb h.lt

theorem crc_sum_v (v g : Nat) (s : ByteArray) (w : World) (ht : Tab w g) (hs : s.size ≤ maxLen) (hv : PCrc.sum s.data.toList = v) :
    Calls Try.prog 46 #[.pointer (some ⟨g, 0, none⟩), .string s] w fun e w' => e = .returned (.int .u32 (v : Nat)) ∧ ∃ n, w' = w.drewN n := by
  rw [← hv]
  exact crc_sum g s w ht hs

end Go.Proofs.Ytfgmbmpbgokolaa
