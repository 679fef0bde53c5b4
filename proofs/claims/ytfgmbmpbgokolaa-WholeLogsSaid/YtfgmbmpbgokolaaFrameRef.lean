/- The document's own answers on records: written. -/
import Derived.Test.YtfgmbmpbgokolaaFrame2
import Derived.Test.YtfgmbmpbgokolaaCrcRef2
namespace Go.Proofs.Ytfgmbmpbgokolaa
open Go.ChangeShapes Go.WideShapes Go.ChangeAt Go.RowKit
open PVar PCrc PFrame
set_option linter.unusedVariables false

/-- One byte, as a slice newly laid, read as a text there or later. -/
theorem one_text (w : World) (c : UInt8) (z : Int) (hz : z = c.toNat) (N : Nat) (hN : w.heap.size = N) (w' : World) (hb : Below (w.alloc (.cells #[.int .u8 z] 5)).heap.size (w.alloc (.cells #[.int .u8 z] 5)) w') :
    (convert 38 9 (.slice (some ⟨N, 0, none⟩) 1 1)).run Try.prog w' = .ok (.string (bstr [c])) w' := by
  subst hN
  subst hz
  have h := Sl.made (B := w.heap.size) w #[.int .u8 (c.toNat : Int)] 5 1 1 1 (Nat.le_refl _) (Nat.le_refl _) (by decide) (by simp)
  exact sl_later (n := 1) (l := [c]) h hb

set_option maxRecDepth 100000 in
set_option maxHeartbeats 1000000 in
theorem ref_body (k t : Int) (s : ByteArray) (w : World) (hk : k = 1 ∨ k = 2) (ht : -9223372036854775808 ≤ t ∧ t ≤ 9223372036854775807) (hs : s.size ≤ 1000000) :
    Calls Try.prog 27 #[rec k t s] w fun e w' => e = .returned (.string (bstr (body k t s.data.toList))) ∧ Below w.heap.size w w' := by
  have hfl := fold_le ht.1 ht.2
  have hdl := digs_len hfl
  have hkz : k = (UInt8.ofNat k.toNat).toNat := by rcases hk with rfl | rfl <;> rfl
  have hat := At.alloc w [.int .i64 k, .int .i64 t, .string s] 23
  have hbel : Below w.heap.size w (w.alloc (.cells #[.int .i64 k, .int .i64 t, .string s] 23)) := (Below.refl _ _).alloc (Nat.le_refl _) _
  have hsz0 : (bstr (digs (fold t))).size ≤ 10 := by rw [size_bstr]; exact hdl
  have hsz1 : (bstr (UInt8.ofNat k.toNat :: digs (fold t))).size ≤ 11 := by rw [size_bstr]; simp; omega
  have ca1 := fun w => cat_run (P := Try.prog) w (bstr [UInt8.ofNat k.toNat]) (bstr (digs (fold t))) (bstr (UInt8.ofNat k.toNat :: digs (fold t))) (by rw [size_bstr]; simp only [List.length_cons, List.length_nil]; omega) (by rw [bstr_cat]; rfl)
  have ca2 := fun w => cat_run (P := Try.prog) w (bstr (UInt8.ofNat k.toNat :: digs (fold t))) s (bstr (body k t s.data.toList)) (by omega) (bstr_cat _ _)
  have kz := fun (w : World) (N : Nat) (hN : w.heap.size = N) (w' : World) => one_text w (UInt8.ofNat k.toNat) k hkz N hN w'
  have HREF : Hid (∀ w, Calls Try.prog 31 #[.int .u64 (fold t : Nat)] w (fun e w' => e = .returned (.string (bstr (digs (fold t)))) ∧ Below w.heap.size w w')) := fun w => ref_put (fold t) w hfl
  have KZ := Lib.hid kz
  clear kz hkz hsz0 hsz1 hdl
  have hwk : IntKind.u8.wrap k = k := by rw [IntKind.wrap_u8]; omega
  generalize UInt8.ofNat k.toNat = c at *
  generalize bstr (body k t s.data.toList) = R at *
  go_enter Try.func27, Try.ntmps27
  go_wp2
  generalize w.alloc _ = w1 at *
  have hatA := hat.drew
  have hbA := hbel.drew
  have hbB' : Below w.heap.size w (w1.alloc (.cells #[.int .u8 k] 5)) := hbel.alloc hbel.size _
  have hbB := hbB'.drew
  have hatB := (hat.on ((Below.refl _ _).alloc (Nat.le_refl _) (.cells #[.int .u8 k] 5))).drew
  have kcB := KZ.out w1 _ rfl _ ((Below.refl _ (w1.alloc (.cells #[.int .u8 k] 5))).drew)
  obtain ⟨_, r0, _, r1, _, r2, _⟩ := hat.three
  obtain ⟨_, rA0, _, rA1, _, rA2, _⟩ := hatA.three
  obtain ⟨_, rB0, _, rB1, _, rB2, _⟩ := hatB.three
  go_region_held (fun wx => wx.cell? ⟨w.heap.size, 0, none⟩ = some (.int .i64 k) ∧ wx.cell? ⟨w.heap.size, 1, none⟩ = some (.int .i64 t) ∧ wx.cell? ⟨w.heap.size, 2, none⟩ = some (.string s)) (first | exact ⟨rA0, rA1, rA2⟩ | exact ⟨rB0, rB1, rB2⟩ | exact ⟨rC0, rC1, rC2⟩ | exact ⟨rD0, rD1, rD2⟩) (first | (go_at_call 40; refine (ref_fold _ _ ht).mono ?_; rintro e w2 ⟨rfl, rfl⟩) | (go_at_call 31; refine (HREF.out _).mono ?_; rintro e w2 ⟨rfl, b2⟩; first | (have hatC := hatA.on b2; have hbC := on_below hbA b2; have hatD := hatC.on ((Below.refl _ _).alloc (Nat.le_refl _) (.cells #[.int .u8 k] 5)); have hbD : Below w.heap.size w (w2.alloc (.cells #[.int .u8 k] 5)) := hbC.alloc hbC.size _; have kcD := KZ.out w2 _ rfl _ (Below.refl _ (w2.alloc (.cells #[.int .u8 k] 5))); obtain ⟨_, rC0, _, rC1, _, rC2, _⟩ := hatC.three; obtain ⟨_, rD0, _, rD1, _, rD2, _⟩ := hatD.three) | (have hatC := hatB.on b2; have hbD := on_below hbB b2; have kcC := KZ.out w1 _ rfl w2 (on_below ((Below.refl _ _).drew) b2); obtain ⟨_, rC0, _, rC1, _, rC2, _⟩ := hatC.three)))
  all_goals
    go_wp2
    go_ret
    exact ⟨rfl, hbD⟩
end Go.Proofs.Ytfgmbmpbgokolaa
