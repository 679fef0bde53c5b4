/- The document's own seal; the laws' first question; sums that are known. -/
import Derived.Test.YtehkfahbooiniaaCrcRef
namespace Go.Proofs.Ytehkfahbooiniaa
open Go.ChangeShapes Go.WideShapes Go.ChangeAt Go.RowKit
open PCrc
set_option linter.unusedVariables false

theorem own_string {P : Program} {w : World} {g off n : Nat} {f : Nat → Value} (h : Own w g off n f) (l : List UInt8) (hl : l.length ≤ n) (hf : ∀ j (hj : j < l.length), f j = .int .u8 (l[j].toNat : Int)) (cap : Nat) (src dst e : TypeId)
    (hs : P.underlying src = some (.slice e)) (he : P.underlying e = some (.int .u8)) (hd : P.underlying dst = some .string) :
    (convert src dst (.slice (some ⟨g, off, none⟩) l.length cap)).run P w = .ok (.string (bstr l)) w :=
  run_convert_bytes_back (P := P) w src dst e ⟨g, off, none⟩ cap l hs he hd (fun j hj => by
    rw [Addr.add_lit, h.cell j (by omega), hf j hj])

set_option maxRecDepth 100000 in
set_option maxHeartbeats 1000000 in
theorem ref_seal (s : ByteArray) (w : World) (hs : s.size ≤ 4096) :
    Calls Try.prog 12 #[.string s] w fun e w' => e = .returned (.string (bstr (sld s.data.toList))) ∧ Below w.heap.size w w' := by
  have hsum := ref_sum s w hs
  have hn0 := sum_lt s.data.toList
  have hfin : s ++ bstr (four (PCrc.sum s.data.toList)) = bstr (sld s.data.toList) := bstr_cat s _
  generalize PCrc.sum s.data.toList = n0 at *
  have HS := Lib.hid hsum
  have HF := Lib.hid hfin
  clear hsum hfin
  have hmk := fun w => run_make_row' (P := Try.prog) 32 5 (.int .u8 0) 1 Try.underlying32 (by kernel_rfl) rfl .i64 .i64 4 (by omega) (by omega) w
  have hmk' : ∀ w, (Instr.makeSlice 32 (.int .i64 4) (.int .i64 4)).run Try.prog w = .ok (.slice (some ⟨w.heap.size, 0, none⟩) 4 4) (w.alloc (.cells (madeCells #[.int .u8 0] 4) 5)) := hmk
  clear hmk
  go_enter Try.func12, Try.ntmps12
  go_wp2_with (first | (go_at_call 11; refine HS.out.mono ?_; rintro e w1 ⟨rfl, hb⟩))
  clear HS
  have hown := Own.madeRow w1 (.int .u8 0) 4 5
  have hbel : Below w.heap.size w (w1.alloc (.cells (madeCells #[.int .u8 0] 4) 5)) := hb.alloc hb.size _
  have hlt := hb.size
  generalize hw2 : w1.alloc _ = w2 at *
  clear hw2 hmk' hb
  go_loopw [3, 5] (fun x i wx => ∃ (m a : Nat) (q : Int), m ≤ 4 ∧ q + m = 3 ∧ i = .int .i64 q ∧ x = .int .u32 a ∧ a ≤ n0 ∧ Hid (a = n0 / 256 ^ m) ∧ Own wx w1.heap.size 0 4 (fun j => if 3 < j + m then .int .u8 (n0 / 256 ^ (3 - j) % 256 : Nat) else .int .u8 0) ∧ Below w.heap.size w wx) (fun _ i _ => (intOf i + 1).toNat)
  case atStart => exact ⟨0, n0, 3, by omega, by omega, rfl, rfl, Nat.le_refl _, (by show _ = _; simp), hown.congr (fun j hj => by rw [if_neg (by omega)]), hbel⟩
  case round =>
    clear hown hbel
    obtain ⟨m, a, q, hm, hq, rfl, rfl, han, HA, ho, hb⟩ := hrel
    by_cases h0 : 0 ≤ q
    · obtain ⟨p, rfl⟩ := Int.eq_ofNat_of_zero_le h0
      have hp : 3 - p = m := by omega
      have hc := ho.cell p (by omega)
      have hf := ho.free p (by omega)
      have hset := ho.set p (by omega) (.int .u8 (a % 256 : Nat))
      have hlt3 := ho.lt
      rw [Nat.zero_add] at hc hf hset
      rw [if_neg (by omega)] at hc
      have HSET := Lib.hid hset
      have HP := Lib.hid hp
      clear hset hp
      go_wp2
      go_roundw
      case rel => exact ⟨m + 1, a / 256, (p : Int) - 1, by omega, by omega, by go_num, by go_num, by omega, (by show _ = _; rw [HA.out, Nat.pow_succ, Nat.div_div_eq_div_mul]), HSET.out.congr (fun j hj => by
        show (if j = p then _ else _) = _
        by_cases e : j = p
        · rw [if_pos e, if_pos (by omega), e, HP.out, HA.out]
        · rw [if_neg e]
          by_cases e2 : 3 < j + m
          · rw [if_pos e2, if_pos (by omega)]
          · rw [if_neg e2, if_neg (by omega)]), hb.setCell (by simp; omega) _⟩
      case measure => simp [intOf] <;> omega
    · have hm4 : m = 4 := by omega
      have kc := own_string (P := Try.prog) ho (four n0) (by rw [four_len]; omega) (fun j hj => by
        rw [if_pos (by omega)]
        rw [four_len] at hj
        match j, hj with
        | 0, _ => simp [four]
        | 1, _ => simp [four]
        | 2, _ => simp [four]
        | 3, _ => simp [four]) 4 32 9 5 Try.underlying32 Try.underlying5 Try.underlying9
      rw [four_len] at kc
      have h4 := four_len n0
      go_wp2
      go_ret
      exact ⟨by rw [HF.out]; rfl, hb⟩

/-! ### What the laws ask first -/

def iterS : Nat → Nat → Nat
  | 0, r => r
  | n + 1, r => iterS n (cst r)
theorem iterS_eq : ∀ n r, iter n r = iterS n r
  | 0, r => iter_0 r
  | n + 1, r => (iter_1 n r).trans (iterS_eq n (cst r))
def regS (r : Nat) (l : List UInt8) : Nat := l.foldl (fun r c => iterS 8 (r ^^^ c.toNat)) r
theorem regS_eq : ∀ (l : List UInt8) (r : Nat), PCrc.reg r l = regS r l
  | [], r => rfl
  | c :: l, r => by
    show PCrc.reg (PCrc.upd r c.toNat) l = regS (iterS 8 (r ^^^ c.toNat)) l
    rw [upd_iter r c.toNat c.toNat_lt, iterS_eq, regS_eq l]
theorem sum_nine : PCrc.sum [49, 50, 51, 52, 53, 54, 55, 56, 57] = 3421780262 := by
  unfold PCrc.sum
  rw [regS_eq]
  decide +kernel
theorem sld_nil : sld [] = [0, 0, 0, 0] := by
  unfold sld
  have : PCrc.sum [] = 0 := by decide
  rw [this]
  decide

theorem bstr_data (s : ByteArray) : bstr s.data.toList = s := rfl

theorem crc_open_sld (g : Nat) (s : ByteArray) (w : World) (ht : Tab w g) (hs : s.size ≤ 4096) :
    Calls Try.prog 9 #[.pointer (some ⟨g, 0, none⟩), .string (bstr (sld s.data.toList))] w fun e w' => e = .returned (.tuple #[.string s, .bool true]) ∧ Below w.heap.size w w' := by
  have h := crc_open g (bstr (sld s.data.toList)) w ht (by
    show (sld s.data.toList).toArray.size ≤ _
    rw [List.size_toArray, sld_len]
    have : s.data.toList.length = s.size := by simp
    omega)
  have e : (bstr (sld s.data.toList)).data.toList = sld s.data.toList := rfl
  rw [e, opened_sld, opn_sld] at h
  exact h

theorem tab_drewN {w : World} {g : Nat} (h : Tab w g) (n : Nat) : Tab (w.drewN n) g := Own.drewN h n
theorem tab_on {B : Nat} {w w' : World} {g : Nat} (h : Tab w g) (hb : Below w.heap.size w w') : Tab w' g := Own.below h hb h.lt

theorem crc_sum_v (v g : Nat) (s : ByteArray) (w : World) (ht : Tab w g) (hs : s.size ≤ maxLen) (hv : PCrc.sum s.data.toList = v) :
    Calls Try.prog 10 #[.pointer (some ⟨g, 0, none⟩), .string s] w fun e w' => e = .returned (.int .u32 (v : Nat)) ∧ ∃ n, w' = w.drewN n := by
  rw [← hv]
  exact crc_sum g s w ht hs

set_option maxRecDepth 100000 in
set_option maxHeartbeats 1000000 in
theorem speaks3 (w : World) : Calls Try.prog 6 #[] w fun e w' => e = .returned (.bool true) ∧ Below w.heap.size w w' := by
  have h1 := fun (g : Nat) (w : World) (h : Tab w g) => crc_sum_v 3421780262 g ⟨#[49, 50, 51, 52, 53, 54, 55, 56, 57]⟩ w h (by decide) sum_nine
  have h2 : ∀ (g : Nat) (w : World) (h : Tab w g), Calls Try.prog 8 #[.pointer (some ⟨g, 0, none⟩), .string ⟨#[]⟩] w fun e w' => e = .returned (.string ⟨#[0, 0, 0, 0]⟩) ∧ Below w.heap.size w w' := by
    intro g w h
    have h3 := crc_seal g ⟨#[]⟩ w h (by decide)
    have e : (ByteArray.mk #[]).data.toList = [] := rfl
    rw [e, sld_nil] at h3
    exact h3
  have H1 := Lib.hid h1
  have H2 := Lib.hid h2
  clear h1 h2
  go_enter Try.func6, Try.ntmps6
  go_wp2_with (first | (go_at_call 7; refine (crc_new _).mono ?_; rintro e w1 ⟨g, rfl, hg, ht, hb⟩) | (go_at_call 10; refine (H1.out g _ ht).mono ?_; rintro e w2 ⟨rfl, n, rfl⟩) | (go_at_call 8; refine (H2.out g _ (tab_drewN ht n)).mono ?_; rintro e w3 ⟨rfl, hb3⟩))
  go_ret
  exact ⟨rfl, (below_drewN hb n).trans (hb3.mono hb.size)⟩
end Go.Proofs.Ytehkfahbooiniaa
