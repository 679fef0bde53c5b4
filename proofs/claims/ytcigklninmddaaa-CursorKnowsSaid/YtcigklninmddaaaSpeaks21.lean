/- cursor: the laws' own first question. -/
import Derived.Test.YtcigklninmddaaaCur2
namespace Go.Proofs.Ytcigklninmddaaa
set_option maxRecDepth 4000
open Go.ChangeShapes Go.WideShapes Go.ChangeAt Go.RowKit
open PVar PCrc PFrame
set_option linter.unusedVariables false
set_option linter.unusedSimpArgs false

theorem enc_4c : (enc 1 4 []).length = 7 := by
  rw [enc_len, body_len]
  have h : digs (fold 4) = [8] := by rw [show fold 4 = 8 from rfl, digs_low (by omega)]; rfl
  rw [h]
  have h2 : digs (1 + [(8 : UInt8)].length + ([] : List UInt8).length) = [2] := by rw [digs_low (by decide)]; rfl
  rw [h2]
  rfl
theorem body_4c : (body 1 4 []).length ≤ 65536 := by
  have := enc_4c
  rw [enc_len] at this
  omega
theorem ok_4c : okR (1, 4, []) := ⟨err_zero (.inl rfl) body_4c, by decide, by decide⟩
theorem parse_1c : parse [1] = ([], 0, 4) := by
  have h : get [1] = (1, 1, 0) := by decide
  have hf : fget [1] = (zr, 0, 4) := by
    unfold fget
    rw [h]
    simp
  have := parse_bad (l := [1]) (by simp) (by rw [hf]; simp)
  rw [this, hf]
theorem build_4c : build [(1, 4, [])] = enc 1 4 [] := by show enc 1 4 [] ++ [] = _; rw [List.append_nil]
theorem parse_40 : parse (enc 1 4 []) = ([(1, 4, [])], 7, 0) := by
  have h := parse_build [(1, 4, [])] (by intro r hr; simp at hr; subst hr; exact ok_4c) []
  rw [build_4c, parse_nil, enc_4c, List.append_nil] at h
  rw [h]
  rfl
theorem parse_41 : parse (enc 1 4 [] ++ [1]) = ([(1, 4, [])], 7, 4) := by
  have h := parse_build [(1, 4, [])] (by intro r hr; simp at hr; subst hr; exact ok_4c) [1]
  rw [build_4c, parse_1c, enc_4c] at h
  rw [h]
  rfl

/-- One record, and what comes behind it. -/
theorem cur_one (l : List UInt8) (more : List UInt8) (e : Nat) (hl : l = enc 1 4 [] ++ more) (h : parse l = ([(1, 4, [])], 7, e)) :
    cahead l = 0 ∧ fget l = ((1, 4, []), 7, 0) ∧ l.drop 7 = more ∧ cahead (l.drop 7) = (if e = 0 then 1 else 2) ∧ cerr (l.drop 7) = e := by
  obtain ⟨v, f1, d1, e1, _, c1, a1, _⟩ := parse_step h
  have h7 : (encR (1, 4, [])).length = 7 := enc_4c
  rw [h7] at f1 d1 e1
  obtain ⟨_, h2, h3, _, _⟩ := parse_stop d1
  refine ⟨a1, f1, ?_, h3, h2⟩
  rw [hl, ← enc_4c, List.drop_left]

set_option maxRecDepth 100000 in
set_option maxHeartbeats 4000000 in
theorem speaks21 (w : World) : Calls Try.prog 5 #[] w fun e w' => e = .returned (.bool true) ∧ Below w.heap.size w w' := by
  obtain ⟨a1, a2, a3, a4, a5⟩ := cur_one (enc 1 4 []) [] 0 (List.append_nil _).symm parse_40
  obtain ⟨b1, b2, b3, b4, b5⟩ := cur_one (enc 1 4 [] ++ [1]) [1] 4 rfl parse_41
  have hl : (bstr (enc 1 4 [])).size = 7 := by rw [size_bstr, enc_4c]
  have hl2 : (bstr (enc 1 4 [] ++ [1])).size = 8 := by rw [size_bstr, List.length_append, enc_4c]; rfl
  have HC := Lib.hid (fun w => fr_encode_ok 1 4 ⟨#[]⟩ w (.inl rfl) (by decide) (by decide) body_4c)
  have hca := fun w => cat_run (P := Try.prog) w (bstr (enc 1 4 [])) ⟨#[1]⟩ (bstr (enc 1 4 [] ++ [1])) (by rw [hl]; decide) (bstr_cat _ _)
  obtain ⟨X, hX⟩ : ∃ X : List UInt8, X = [] := ⟨_, rfl⟩
  rw [show (ByteArray.mk #[]).data.toList = [] from rfl] at HC
  generalize hE : enc 1 4 [] = E at *
  clear hE
  have a2' : fget E = ((1, 4, X), 7, 0) := by rw [hX]; exact a2
  have b2' : fget (E ++ [1]) = ((1, 4, X), 7, 0) := by rw [hX]; exact b2
  have HN1 := fun w => Lib.hid (cu_new (bstr E) w (by omega))
  have HN2 := fun w => Lib.hid (cu_new (bstr (E ++ [1])) w (by omega))
  have HA1 : ∀ g w, CurC w g (bstr E) 0 0 → Hid _ := fun g w h => Lib.hid (cu_ahead_is g (bstr E) 0 0 w 0 h (by omega) (by omega) (by show ((cahead E : Nat) : Int) = 0; rw [a1]; rfl))
  have HX1 : ∀ g w, CurC w g (bstr E) 0 0 → Hid _ := fun g w h => Lib.hid (cu_next g (bstr E) 0 0 _ 7 w h (by omega) (by omega) (by omega) a2')
  have HX2 : ∀ g w, CurC w g (bstr (E ++ [1])) 0 0 → Hid _ := fun g w h => Lib.hid (cu_next g (bstr (E ++ [1])) 0 0 _ 7 w h (by omega) (by omega) (by omega) b2')
  have HA2 : ∀ g w, CurC w g (bstr E) (0 + 7) (0 + 1) → Hid _ := fun g w h => Lib.hid (cu_ahead_is g (bstr E) (0 + 7) (0 + 1) w 1 h (by omega) (by omega) (by show ((cahead (E.drop 7) : Nat) : Int) = 1; rw [a4]; rfl))
  have HA3 : ∀ g w, CurC w g (bstr (E ++ [1])) (0 + 7) (0 + 1) → Hid _ := fun g w h => Lib.hid (cu_ahead_is g (bstr (E ++ [1])) (0 + 7) (0 + 1) w 2 h (by omega) (by omega) (by show ((cahead ((E ++ [1]).drop 7) : Nat) : Int) = 2; rw [b4]; rfl))
  have HE3 : ∀ g w, CurC w g (bstr (E ++ [1])) (0 + 7) (0 + 1) → Hid _ := fun g w h => Lib.hid (cu_err_is g (bstr (E ++ [1])) (0 + 7) (0 + 1) w 4 h (by omega) (by omega) (by show ((cerr ((E ++ [1]).drop 7) : Nat) : Int) = 4; rw [b5]; rfl))
  clear a1 a2 a3 a4 a5 b1 b2 b3 b4 b5 a2' b2' hl hl2 hX
  go_enter Try.func5, Try.ntmps5
  go_wp2_with (first | (go_at_call 14; refine (HC.out _).mono ?_; rintro e w1 ⟨rfl, hb1⟩))
  generalize bstr (E ++ [1]) = s2 at *
  generalize bstr E = s1 at *
  go_wp2_with (first | (go_at_call 6; (with_reducible refine (HN2 _).out.mono ?_); rintro e w3 ⟨g2, rfl, hg2, hd3, b3⟩; have hc3 := hc2.on b3; have hb3 := on_below hb2 b3; have hn : g1 ≠ g2 := Nat.ne_of_lt (Nat.lt_of_lt_of_le hc2.lt hg2)) | (go_at_call 6; (with_reducible refine (HN1 _).out.mono ?_); rintro e w2 ⟨g1, rfl, hg1, hc2, b2⟩; have hb2 := on_below hb1 b2))
  go_wp2_with (first | (go_at_call 8; (with_reducible refine (HA1 _ _ hc3).out.mono ?_); rintro e w4 ⟨rfl, b4⟩; have hc4 := hc3.on b4; have hd4 := hd3.on b4; have hb4 := on_below hb3 b4) | (go_at_call 12; (with_reducible refine (HX1 _ _ hc4).out.mono ?_); rintro e w5 ⟨rfl, hc5, u5⟩; have hd5 := hd4.upd u5 (fun e => hn e.symm); have hb5 := hb4.upd u5 hb4.size (fun i _ (e : i = g1) => e ▸ Nat.le_trans hb1.size hg1)) | (go_at_call 12; (with_reducible refine (HX2 _ _ (hd5.made _)).out.mono ?_); rintro e w6 ⟨rfl, hd6, u6⟩; have hc6 := (hc5.made (.cells #[.int .i64 1, .int .i64 4, .string (bstr X)] 33)).upd u6 hn; have hb6 := (hb5.alloc hb5.size (.cells #[.int .i64 1, .int .i64 4, .string (bstr X)] 33)).upd u6 (hb5.alloc hb5.size (.cells #[.int .i64 1, .int .i64 4, .string (bstr X)] 33)).size (fun i _ (e : i = g2) => e ▸ Nat.le_trans hb2.size hg2); obtain ⟨hr, r0, _, r1, _, r2, _⟩ := ((At.alloc w5 [.int .i64 1, .int .i64 4, .string (bstr X)] 33).upd u6 (Nat.ne_of_gt hd5.lt)).three; have hb6' := hb6.alloc hb6.size (.cells #[.int .i64 1, .int .i64 4, .string (bstr X)] 33); have hc7 := hc6.made (.cells #[.int .i64 1, .int .i64 4, .string (bstr X)] 33); have hd7 := hd6.made (.cells #[.int .i64 1, .int .i64 4, .string (bstr X)] 33)) | (go_at_call 8; (with_reducible refine (HA2 _ _ hc7).out.mono ?_); rintro e w8 ⟨rfl, b8⟩; have hc8 := hc7.on b8; have hd8 := hd7.on b8; have hb8 := on_below hb6' b8) | (go_at_call 8; (with_reducible refine (HA3 _ _ hd8).out.mono ?_); rintro e w9 ⟨rfl, b9⟩; have hc9 := hc8.on b9; have hd9 := hd8.on b9; have hb9 := on_below hb8 b9) | (go_at_call 9; (with_reducible refine (HE3 _ _ hd9).out.mono ?_); rintro e w10 ⟨rfl, b10⟩; have hc10 := hc9.on b10; have hb10 := on_below hb9 b10) | (go_at_call 11; (with_reducible refine (cu_count _ _ _ _ _ hc10).mono ?_); rintro e w11 ⟨rfl, rfl⟩))
  go_ret
  exact ⟨rfl, hb10⟩
end Go.Proofs.Ytcigklninmddaaa
