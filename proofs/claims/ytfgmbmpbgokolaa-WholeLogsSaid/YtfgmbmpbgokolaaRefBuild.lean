/- The document's own bytes of a row of records. -/
import Derived.Test.YtfgmbmpbgokolaaLog2
import Derived.Test.YtfgmbmpbgokolaaFrameRef2
namespace Go.Proofs.Ytfgmbmpbgokolaa
open Go.ChangeShapes Go.WideShapes Go.ChangeAt Go.RowKit
open PVar PCrc PFrame
set_option linter.unusedVariables false
set_option linter.unusedSimpArgs false

set_option maxRecDepth 100000 in
set_option maxHeartbeats 2000000 in
theorem ref_build (a : Option Addr) (n c : Nat) (rs : List R) (w : World) (hr : RowR w a rs) (hn : rs.length = n) (ht : ∀ r ∈ rs, r.2.2.length ≤ 3000) (hnb : n ≤ 4000) (hz : berr rs = 0) :
    Calls Try.prog 22 #[.slice a n c] w fun e w' => e = .returned (.string (bstr (build rs))) ∧ Below w.heap.size w w' := by
  have HN := Lib.hid hn
  have hok := berr_ok rs hz
  clear hn
  go_enter Try.func22, Try.ntmps22
  go_wp2
  go_loopw [3, 4] (fun s i wr => ∃ k : Nat, k ≤ n ∧ i = .int .i64 k ∧ s = .string (bstr (build (rs.take k))) ∧ (build (rs.take k)).length ≤ k * 5000 ∧ Below w.heap.size w wr) (fun _ i _ => n - (intOf i).toNat)
  case atStart => exact ⟨0, Nat.zero_le _, rfl, rfl, by simp [build], Below.refl _ _⟩
  case round =>
    obtain ⟨k, hk, rfl, rfl, hbs, hbw⟩ := hrel
    by_cases hlt : k < n
    · have hk1 : k < rs.length := by rw [HN.out]; exact hlt
      obtain ⟨b1, o1, rfl, hb1, p0, p1, p2⟩ := (hr.on hbw).at_ k hk1
      have htm := (hr.tm rs[k] (List.getElem_mem hk1)).2
      have htx := ht rs[k] (List.getElem_mem hk1)
      have hkd := err_kind (hok rs[k] (List.getElem_mem hk1))
      have hs' := build_snoc rs k hk1
      generalize rs[k] = r at *
      obtain ⟨k1, t1, x1⟩ := r
      simp only at p0 p1 p2 htm htx hkd
      have hs2 : build (rs.take (k + 1)) = build (rs.take k) ++ enc k1 t1 x1 := hs'
      have hel := enc_len k1 t1 x1
      have hbl := body_len k1 t1 x1
      have hdl := digs_len (fold_le htm.1 htm.2)
      have hdl2 := digs_len (n := (body k1 t1 x1).length) (by omega)
      have hl' : (build (rs.take (k + 1))).length ≤ (k + 1) * 5000 := by rw [hs2, List.length_append]; omega
      have hca := fun w => cat_run (P := Try.prog) w (bstr (build (rs.take k))) (bstr (enc k1 t1 x1)) (bstr (build (rs.take (k + 1)))) (by rw [size_bstr, size_bstr]; omega) (by rw [hs2]; exact bstr_cat _ _)
      have hen := fun w => ref_encode k1 t1 (bstr x1) w hkd htm (by rw [size_bstr]; omega)
      rw [show (bstr x1).data.toList = x1 from rfl] at hen
      have HE := Lib.hid hen
      have HL := Lib.hid hl'
      clear hen hs' hs2 hel hbl hdl hdl2 hl' hk1 hkd
      generalize enc k1 t1 x1 = E at *
      generalize hX : build (rs.take (k + 1)) = X at *
      have HX := Lib.hid hX
      clear hX
      go_wp2_with (first | (go_at_call 14; refine (HE.out _).mono ?_; rintro e w2 ⟨rfl, b2⟩; have hb2 := on_below hbw b2))
      refine ⟨⟨k + 1, by omega, by go_num, by rw [HX.out], by rw [HX.out]; exact HL.out, hb2⟩, by simp [intOf]; omega⟩
    · obtain rfl : k = n := by omega
      have hall : rs.take k = rs := List.take_of_length_le (by rw [HN.out]; exact Nat.le_refl _)
      rw [hall]
      go_wp2
      go_ret
      exact ⟨rfl, hbw⟩
end Go.Proofs.Ytfgmbmpbgokolaa
