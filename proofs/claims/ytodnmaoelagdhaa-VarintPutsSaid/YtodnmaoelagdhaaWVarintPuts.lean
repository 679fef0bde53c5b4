/- The walk of the law VarintPuts. -/
import Derived.Test.YtodnmaoelagdhaaVar4
namespace Go.Proofs.Ytodnmaoelagdhaa
open Go.ChangeShapes Go.WideShapes Go.ChangeAt Go.RowKit
open PVar
set_option linter.unusedVariables false

/-- What is put behind the bytes of a text, of whatever block of the call's own. -/
theorem put_behind (B : Nat) (s : ByteArray) (v : Value) (m : Nat) (w : World) (h : Sl B w 1 v s.size (bv s.data.toList)) (hm : m ≤ 18446744073709551615) (hs : s.size ≤ 200) (hB : B ≤ w.heap.size) :
    Calls Try.prog 21 #[v, .int .u64 m] w fun e w' => ∃ v', e = .returned v' ∧ Sl B w' 1 v' (s.size + (digs m).length) (bv (s.data.toList ++ digs m)) ∧ Upd (fun k => v.ownBlock = some k) w w' ∧ (∀ k, v'.ownBlock = some k → v.ownBlock = some k ∨ w.heap.size ≤ k) :=
  (var_put B v s.size (bv s.data.toList) m w h hm (by omega) hB).mono fun e w' h => by
    obtain ⟨v', he, k1, _, k2, k3⟩ := put_string h
    exact ⟨v', he, k1, k2, k3⟩
theorem putint_behind (B : Nat) (s : ByteArray) (v : Value) (m : Int) (w : World) (h : Sl B w 1 v s.size (bv s.data.toList)) (hm : -9223372036854775808 ≤ m ∧ m ≤ 9223372036854775807) (hs : s.size ≤ 200) (hB : B ≤ w.heap.size) :
    Calls Try.prog 22 #[v, .int .i64 m] w fun e w' => ∃ v', e = .returned v' ∧ Sl B w' 1 v' (s.size + (digs (fold m)).length) (bv (s.data.toList ++ digs (fold m))) ∧ Upd (fun k => v.ownBlock = some k) w w' ∧ (∀ k, v'.ownBlock = some k → v.ownBlock = some k ∨ w.heap.size ≤ k) :=
  (var_putint B v s.size (bv s.data.toList) m w h hm (by omega) hB).mono fun e w' h => by
    obtain ⟨v', he, k1, _, k2, k3⟩ := put_string h
    exact ⟨v', he, k1, k2, k3⟩

theorem getint_digs (s : ByteArray) (f : Nat) (w : World) (hs : s.size ≤ maxLen) (hf : f ≤ 18446744073709551615) (h : s.data.toList = digs f) :
    Calls Try.prog 19 #[.string s] w fun e w' => e = .returned (.tuple #[.int .i64 (back f), .int .i64 ((digs f).length : Nat), .int .i64 0]) ∧ w = w' := by
  have h1 := var_getint s w hs
  have h2 := get_digs f hf []
  rw [List.append_nil] at h2
  rw [h, h2] at h1
  exact h1
theorem get_digs_call (s : ByteArray) (f : Nat) (w : World) (hs : s.size ≤ maxLen) (hf : f ≤ 18446744073709551615) (h : s.data.toList = digs f) :
    Calls Try.prog 17 #[.string s] w fun e w' => e = .returned (.tuple #[.int .u64 f, .int .i64 ((digs f).length : Nat), .int .i64 0]) ∧ w = w' := by
  have h1 := var_get s w hs
  have h2 := PVar.get_digs f hf []
  rw [List.append_nil] at h2
  rw [h, h2] at h1
  exact h1

theorem cat_eq (s : ByteArray) (l : List UInt8) : (s.data.toList ++ l == (s ++ bstr l).toList) = true := by
  rw [Lib.toList_data]
  simp
theorem cut_eq (s : ByteArray) (l : List UInt8) (n : Nat) (hn : n = s.size + l.length) : ((bstr (s.data.toList ++ l)).extract s.size n).data.toList = l := by
  rw [Lib.extract_data]
  have : s.data.toList.length = s.size := by simp
  show List.take (n - s.size) (List.drop s.size (s.data.toList ++ l)) = l
  rw [← this, List.drop_left, List.take_of_length_le (by omega)]
theorem small_of {s : ByteArray} {l : List UInt8} (h : s.data.toList = l) (hl : l.length ≤ 10) : s.size ≤ maxLen := by
  have : s.data.toList.length = s.size := by simp
  rw [h] at this
  unfold maxLen
  omega
theorem bstr_size (l : List UInt8) : (bstr l).size = l.length := by simp [ByteArray.size]

set_option maxRecDepth 100000 in
set_option maxHeartbeats 4000000 in
theorem walk_VarintPuts (w : World) (a0 : ByteArray) (w0 : a0.size ≤ maxLen) (a1 : Int) (w1 : (Lit.int .i64 a1).wf = true) (a2 : Int) (w2 : (Lit.int .u64 a2).wf = true) :
    Calls Try.prog 7 #[.string a0, .int .i64 a1, .int .u64 a2] w fun e w' => e = .returned (.bool true) ∧ Below w.heap.size w w' := by
  have hb1 := bounds_i64 w1
  have hb2 := bounds_u64 w2
  obtain ⟨m, rfl⟩ := Int.eq_ofNat_of_zero_le hb2.1
  have hm : m ≤ 18446744073709551615 := by omega
  clear w1 w2
  by_cases hbig : 200 < a0.size
  · go_enter Try.func7, Try.ntmps7
    go_wp2_with (go_at_call 16; refine (speaks2 _).mono ?_; rintro e w1 ⟨rfl, hb⟩)
    go_ret
    exact ⟨rfl, hb⟩
  · have hs : a0.size ≤ 200 := by omega
    have hfl := fold_le hb1.1 hb1.2
    have kb := fun w => bytes_run w a0
    go_enter Try.func7, Try.ntmps7
    go_wp2_with (go_at_call 16; refine (speaks2 _).mono ?_; rintro e w1 ⟨rfl, hb⟩)
    go_cut [7, 8] (fun x y wx => x = .string (bstr (a0.data.toList ++ PVar.digs (PVar.fold a1))) ∧ y = .string (bstr (a0.data.toList ++ PVar.digs m)) ∧ Below w.heap.size w wx)
    case first =>
      have hB := hb.size
      have hd : Below w.heap.size w w1.drew := hb.drew
      have hz1 : w.heap.size ≤ w1.drew.heap.size := hb.size
      have hc1 : Sl w.heap.size (Lib.bytesWorld w1.drew 5 a0) 1 (.slice (some ⟨w1.heap.size, 0, none⟩) a0.size (grownCap w1.drew a0.size 0 5)) a0.size (bv a0.data.toList) := bytes_sl (B := w.heap.size) w1.drew a0 5 hz1 w0
      have hd1 := bytes_below hd (Nat.le_refl _) a0 5
      have hc2 := bytes_sl (B := w.heap.size) (Lib.bytesWorld w1.drew 5 a0) a0 5 hd1.size w0
      have hc1' := hc1.upd (bytes_upd (fun _ => False) _ a0 5) (fun _ _ h => h)
      have hd2 := bytes_below hd1 (Nat.le_refl _) a0 5
      go_region_with (first
        | (go_at_call 22; first | ((with_reducible refine (putint_behind w.heap.size a0 _ a1 _ hc1 hb1 hs hd1.size).mono ?_); rintro e x1 ⟨v1, rfl, k1, k2, k3⟩; have hx1 := hd1.upd k2 hd1.size (fun i _ h => (hc1.lt i h).1); obtain ⟨kc1, kc1'⟩ := sl_texts k1 a0; have q2 := bytes_sl (B := w.heap.size) x1 a0 5 hx1.size w0; have hy1 := bytes_below hx1 (Nat.le_refl _) a0 5; have k1' := k1.upd (bytes_upd (fun _ => False) _ a0 5) (fun _ _ h => h)) | ((with_reducible refine (putint_behind w.heap.size a0 _ a1 _ hc1' hb1 hs hd2.size).mono ?_); rintro e x1 ⟨v1, rfl, k1, k2, k3⟩; have hx1 := hd2.upd k2 hd2.size (fun i _ h => (hc1.lt i h).1); obtain ⟨kc1, kc1'⟩ := sl_texts k1 a0; have q2 := hc2.upd k2 (by intro k h h'; simp [Value.ownBlock, Lib.bytesWorld_size] at h h'; omega)) | ((with_reducible refine (putint_behind w.heap.size a0 _ a1 _ hc2 hb1 hs hd2.size).mono ?_); rintro e x1 ⟨v1, rfl, k1, k2, k3⟩; have hx1 := hd2.upd k2 hd2.size (fun i _ h => (hc2.lt i h).1); obtain ⟨kc1, kc1'⟩ := sl_texts k1 a0; have q2 := hc1'.upd k2 (by intro k h h'; simp [Value.ownBlock, Lib.bytesWorld_size] at h h'; omega)))
        | (go_at_call 21; first | ((with_reducible refine (put_behind w.heap.size a0 _ m _ q2 hm hs hx1.size).mono ?_); rintro e x2 ⟨v2, rfl, j1, j2, j3⟩; have hx2 := hx1.upd j2 hx1.size (fun i _ h => (q2.lt i h).1); have kc2 := (sl_texts j1 a0).1; have kc1x := (sl_texts (k1.upd j2 (by intro k h h'; have l1 := (k1.lt k h).2; have l2 := k3 k h; simp [Value.ownBlock, Lib.bytesWorld_size] at l2 h'; omega)) a0).1) | ((with_reducible refine (put_behind w.heap.size a0 _ m _ q2 hm hs hy1.size).mono ?_); rintro e x2 ⟨v2, rfl, j1, j2, j3⟩; have hx2 := hy1.upd j2 hy1.size (fun i _ h => (q2.lt i h).1); have kc2 := (sl_texts j1 a0).1; have kc1x := (sl_texts (k1'.upd j2 (by intro k h h'; have l1 := (k1.lt k h).2; have l2 := k3 k h; simp [Value.ownBlock, Lib.bytesWorld_size] at l2 h'; omega)) a0).1))
        )
      all_goals
        go_wp2_with fail
        go_meet
        exact ⟨rfl, rfl, hx2⟩
    case rest =>
      obtain ⟨rfl, rfl, hbc⟩ := hcut
      have hf := PVar.back_fold a1
      have HF := Lib.hid hf
      clear hf kb
      generalize hg1 : PVar.fold a1 = f at *
      have HG1 := Lib.hid hg1
      clear hg1
      have hl1 := digs_len hfl
      have hl2 := digs_len hm
      have e1 := cat_eq a0 (digs f)
      have e2 := cat_eq a0 (digs m)
      go_wp2_with (first | (go_at_call 24; refine (ref_fold _ _ hb1).mono ?_; rintro e x1 ⟨rfl, rfl⟩; rw [HG1.out]) | (go_at_call 25; refine (var_fold _ _ hb1).mono ?_; rintro e x1 ⟨rfl, rfl⟩; rw [HG1.out]) | (go_at_call 26; first | ((with_reducible refine (var_back f _ hfl).mono ?_); rintro e x1 ⟨rfl, rfl⟩; rw [HF.out]) | ((with_reducible refine (var_back m _ hm).mono ?_); rintro e x1 ⟨rfl, rfl⟩)) | (go_at_call 20; refine (ref_back m _ hm).mono ?_; rintro e x1 ⟨rfl, rfl⟩) | (go_at_call 23; first | ((with_reducible refine (ref_put f _ hfl).mono ?_); rintro e x1 ⟨rfl, hx1⟩) | ((with_reducible refine (ref_put m _ hm).mono ?_); rintro e x2 ⟨rfl, hx2⟩)) | (go_at_call 19; refine (getint_digs _ f _ (small_of (cut_eq a0 (PVar.digs f) _ rfl) hl1) hfl (cut_eq a0 (PVar.digs f) _ rfl)).mono ?_; rintro e x1 ⟨rfl, rfl⟩; rw [HF.out]) | (go_at_call 17; refine (get_digs_call _ m _ (small_of (cut_eq a0 (PVar.digs m) _ rfl) hl2) hm (cut_eq a0 (PVar.digs m) _ rfl)).mono ?_; rintro e x1 ⟨rfl, rfl⟩))
      go_ret
      exact ⟨rfl, hbc.trans ((hx1.trans (hx2.mono hx1.size)).mono hbc.size)⟩
end Go.Proofs.Ytodnmaoelagdhaa
