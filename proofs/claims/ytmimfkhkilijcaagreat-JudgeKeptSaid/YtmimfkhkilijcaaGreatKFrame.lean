/- Contracts of frame's calls: records written. -/
import Derived.Test.YtmimfkhkilijcaaGreatKVar
import Derived.Test.YtmimfkhkilijcaaGreatKCrc
import Derived.Test.YtmimfkhkilijcaaGreatCut
import Derived.Test.YtmimfkhkilijcaaGreatKBase
import Derived.Test.YtmimfkhkilijcaaGreatKRec
namespace Go.Proofs.YtmimfkhkilijcaaGreat
set_option maxRecDepth 4000
open Go.ChangeShapes Go.WideShapes Go.ChangeAt Go.RowKit
open PVar PCrc PFrame
set_option linter.unusedVariables false

theorem fr_kind (k : Int) (w : World) (b : Bool) (hb : b = decide (k = 1 ∨ k = 2)) : Calls Tryz.prog 60 #[.int .i64 k] w fun e w' => e = .returned (.bool b) ∧ w = w' := by
  have HB := Lib.hid hb
  clear hb
  by_cases h1 : k = 1
  · subst h1
    go_enter Tryz.func60, Tryz.ntmps60
    go_wp2
    go_ret
    exact ⟨ret_bool (by rw [HB.out]; decide), rfl⟩
  · go_enter Tryz.func60, Tryz.ntmps60
    go_wp2
    go_ret
    refine ⟨ret_bool ?_, rfl⟩
    rw [HB.out, Bool.eq_iff_iff]
    simp [h1]

abbrev rec (k t : Int) (s : ByteArray) : Value := .agg #[.int .i64 k, .int .i64 t, .string s]
/-- What Encode answers. -/
def encS (k t : Int) (x : List UInt8) : List UInt8 := if err k t x = 0 then enc k t x else []

/-- A number put into no slice: a slice of its bytes. -/
theorem put_nilz (z : Int) (m : Nat) (w : World) (hz : z = m) (hm : m ≤ 18446744073709551615) : Calls Tryz.prog 62 #[.slice none 0 0, .int .u64 z] w fun e w' =>
    ∃ a c, e = .returned (.slice a (digs m).length c) ∧ Sl w.heap.size w' 1 (.slice a (digs m).length c) (digs m).length (bv (digs m)) ∧ Below w.heap.size w w' := by
  subst hz
  refine (var_put w.heap.size _ 0 (bv []) m w (Sl.nil _ _ _) hm (by omega) (Nat.le_refl _)).mono fun e w' h => ?_
  obtain ⟨v', he, h2, _, hu, _⟩ := put_string (l := []) h
  rw [Nat.zero_add, List.nil_append] at h2
  obtain ⟨a, c, rfl⟩ := h2.shape
  exact ⟨a, c, he, h2, upd_nil hu⟩
theorem putint_one (c0 : UInt8) (t : Int) (w : World) (B : Nat) (v : Value) (h : Sl B w 1 v 1 (bv [c0])) (ht : -9223372036854775808 ≤ t ∧ t ≤ 9223372036854775807) (hB : B ≤ w.heap.size) : Calls Tryz.prog 61 #[v, .int .i64 t] w fun e w' =>
    ∃ a c, e = .returned (.slice a (1 + (digs (fold t)).length : Nat) c) ∧ Sl B w' 1 (.slice a (1 + (digs (fold t)).length) c) (1 + (digs (fold t)).length) (bv (c0 :: digs (fold t))) ∧ Upd (fun k => v.ownBlock = some k) w w' := by
  refine (var_putint B v 1 (bv [c0]) t w h ht (by omega) hB).mono fun e w' h => ?_
  obtain ⟨v', he, h2, _, hu, _⟩ := put_string (l := [c0]) h
  obtain ⟨a, c, rfl⟩ := h2.shape
  exact ⟨a, c, he, h2, hu⟩
/-- A slice of bytes of the call's own, read as a text at a later world. -/
theorem sl_later {B : Nat} {w w' : World} {v : Value} {n : Nat} {l : List UInt8} (h : Sl B w 1 v n (bv l)) (hb : Below w.heap.size w w') : (convert 128 9 v).run Tryz.prog w' = .ok (.string (bstr l)) w' := by
  refine sl_string (h.upd (S := fun k => w.heap.size ≤ k) (Upd.of_below hb (fun _ _ h => h)) (fun k hk => ?_)) _ _ _ Tryz.underlying128 Tryz.underlying5 Tryz.underlying9
  have := (h.lt k hk).2
  omega
theorem Sl.on {B : Nat} {w w' : World} {size : Nat} {v : Value} {n : Nat} {xs : List Value} (h : Sl B w size v n xs) (hb : Below w.heap.size w w') : Sl B w' size v n xs :=
  h.upd (S := fun k => w.heap.size ≤ k) (Upd.of_below hb (fun _ _ h => h)) (fun k hk => by have := (h.lt k hk).2; omega)

set_option maxRecDepth 100000 in
set_option maxHeartbeats 1000000 in
theorem fr_encode_ok (k t : Int) (s : ByteArray) (w : World) (hk : k = 1 ∨ k = 2) (ht : -9223372036854775808 ≤ t ∧ t ≤ 9223372036854775807) (hs : s.size ≤ 1000000) (hl : (body k t s.data.toList).length ≤ 65536) :
    Calls Tryz.prog 31 #[rec k t s] w fun e w' => e = .returned (.tuple #[.string (bstr (enc k t s.data.toList)), .int .i64 0]) ∧ Below w.heap.size w w' := by
  have hbl := body_len k t s.data.toList
  have hsl : s.data.toList.length = s.size := by simp
  have hkb : decide (k = 1 ∨ k = 2) = true := by simpa using hk
  have hdl := digs_len (fold_le ht.1 ht.2)
  have h0 : Sl w.heap.size ((w.alloc (.cells #[.int .i64 k, .int .i64 t, .string s] 57)).alloc (.cells #[.int .u8 k] 5)) 1 (.slice (some ⟨w.heap.size + 1, 0, none⟩) 1 1) 1 (bv [UInt8.ofNat k.toNat]) := by
    have := Sl.made (B := w.heap.size) (w.alloc (.cells #[.int .i64 k, .int .i64 t, .string s] 57)) #[.int .u8 k] 5 1 1 1 (by simp) (by omega) (by decide) (by simp)
    have e : bv [UInt8.ofNat k.toNat] = [.int .u8 k] := by rcases hk with rfl | rfl <;> rfl
    rw [e]
    simpa using this
  have ha0 := At.alloc w [.int .i64 k, .int .i64 t, .string s] 57
  have hbl0 : Below w.heap.size w (w.alloc (.cells #[.int .i64 k, .int .i64 t, .string s] 57)) := (Below.refl _ _).alloc (Nat.le_refl _) _
  have ha1 := ha0.on ((Below.refl _ _).alloc (Nat.le_refl _) (.cells #[.int .u8 k] 5))
  have hb1 : Below w.heap.size w ((w.alloc (.cells #[.int .i64 k, .int .i64 t, .string s] 57)).alloc (.cells #[.int .u8 k] 5)) := hbl0.alloc hbl0.size _
  have hsz0 : (bstr (UInt8.ofNat k.toNat :: digs (fold t))).size = 1 + (digs (fold t)).length := by simp [ByteArray.size]; omega
  have hsz1 : (bstr (digs (body k t s.data.toList).length)).size = (digs (body k t s.data.toList).length).length := by simp [ByteArray.size]
  have hsz2 : (bstr (sld (body k t s.data.toList))).size = (body k t s.data.toList).length + 4 := by simp [ByteArray.size, sld_len]
  have hdx := digs_len (n := (body k t s.data.toList).length) (by omega)
  have ca1 : ∀ w, (Op.stringOp .add (bstr (UInt8.ofNat k.toNat :: digs (fold t))) s).run Tryz.prog w = .ok (.string (bstr (body k t s.data.toList))) w := by
    exact fun w => cat_run w _ _ _ (by omega) (bstr_cat _ _)
  have ca2 : ∀ w, (Op.stringOp .add (bstr (digs (body k t s.data.toList).length)) (bstr (sld (body k t s.data.toList)))).run Tryz.prog w = .ok (.string (bstr (enc k t s.data.toList))) w := by
    exact fun w => cat_run w _ _ _ (by omega) (bstr_cat _ _)
  have HSEAL : Hid (∀ g w, Tab w g → Calls Tryz.prog 64 #[.pointer (some ⟨g, 0, none⟩), .string (bstr (body k t s.data.toList))] w fun e w' => e = .returned (.string (bstr (sld (body k t s.data.toList)))) ∧ Below w.heap.size w w') := by
    intro g w h
    exact crc_seal g _ w h (by rw [show (bstr (body k t s.data.toList)).size = (body k t s.data.toList).length by simp [ByteArray.size]]; omega)
  clear hsz0 hsz1 hsz2 hdx
  generalize hL : (body k t s.data.toList).length = L at *
  generalize hD : (digs (fold t)).length = D at *
  have hLe : L = 1 + D + s.size := by rw [hbl, hsl]
  have hl' : 1 + D + s.size ≤ 65536 := by omega
  have HLE := Lib.hid hLe
  have HD := Lib.hid hD
  have hdl2 := digs_len (n := L) (by omega)
  have hDb : (digs (fold t)).length ≤ 10 := by rw [hD]; exact hdl
  have hsb : (sld (body k t s.data.toList)).length ≤ 65540 := by rw [sld_len, hL]; omega
  clear hL hbl hsl hLe hD
  go_enter Tryz.func31, Tryz.ntmps31
  go_wp2_with (first | (go_at_call 60; refine (fr_kind k _ true hkb.symm).mono ?_; rintro e w1 ⟨rfl, rfl⟩) | (go_at_call 61; refine (putint_one _ t _ w.heap.size _ h0 ht hb1.size).mono ?_; rw [HD.out]; rintro e w1 ⟨a1, c1, rfl, k1, u1⟩; have ha2 := ha1.upd u1 (by simp [Value.ownBlock]); have hb2 := hb1.upd u1 hb1.size (by simp [Value.ownBlock]; omega); have q2 : w1.cell? ⟨w.heap.size, 2, none⟩ = some (.string s) := (ha2.2 2 (by simp)).1) | (go_at_call 62; refine (put_nilz _ L _ (by have := HLE.out; omega) (by omega)).mono ?_; rintro e w2 ⟨a2, c2, rfl, k2, b2⟩; have hb3 := on_below hb2 b2; have ha3 := ha2.on b2; have q3 : w2.cell? ⟨w.heap.size, 2, none⟩ = some (.string s) := (ha3.2 2 (by simp)).1))
  have hb3d := hb3.drew
  have kc1 := sl_later k1 b2.drew
  have kc2 := sl_later k2 ((Below.refl _ w2).drew)
  have q3d : w2.drew.cell? ⟨w.heap.size, 2, none⟩ = some (.string s) := q3
  go_region_held3 (fun wx => (convert 128 9 (.slice a1 (1 + D) c1)).run Tryz.prog wx = .ok (.string (bstr (UInt8.ofNat k.toNat :: digs (fold t)))) wx ∧ (convert 128 9 (.slice a2 (digs L).length c2)).run Tryz.prog wx = .ok (.string (bstr (digs L))) wx ∧ wx.cell? ⟨w.heap.size, 2, none⟩ = some (.string s)) (first | exact ⟨kc1, kc2, q3d⟩ | exact ⟨kd1, kd2, q5⟩ | exact ⟨ke1, ke2, q7⟩) (first | (go_at_call 63; refine (crc_new _).mono ?_; rintro e w4 ⟨g, rfl, hg, ht4, b4⟩; have hb5 := on_below hb3d b4; have kd1 := sl_later k1 (on_below b2.drew b4); have kd2 := sl_later k2 (on_below ((Below.refl _ w2).drew) b4); have q5 : w4.cell? ⟨w.heap.size, 2, none⟩ = some (.string s) := (((ha3.on (Below.refl _ w2).drew).on b4).2 2 (by simp)).1) | (go_at_call 64; refine (HSEAL.out g _ ht4).mono ?_; rintro e w5 ⟨rfl, b6⟩; have hb7 := on_below hb5 b6; have ke1 := sl_later k1 (on_below (on_below b2.drew b4) b6); have ke2 := sl_later k2 (on_below (on_below ((Below.refl _ w2).drew) b4) b6); have q7 : w5.cell? ⟨w.heap.size, 2, none⟩ = some (.string s) := ((((ha3.on (Below.refl _ w2).drew).on b4).on b6).2 2 (by simp)).1))
  go_wp2
  go_ret2
  exact ⟨rfl, hb7⟩

set_option maxRecDepth 100000 in
set_option maxHeartbeats 1000000 in
theorem fr_encode_kind (k t : Int) (s : ByteArray) (w : World) (hk : ¬ (k = 1 ∨ k = 2)) (ht : -9223372036854775808 ≤ t ∧ t ≤ 9223372036854775807) (hs : s.size ≤ 1000000) :
    Calls Tryz.prog 31 #[rec k t s] w fun e w' => e = .returned (.tuple #[.string ⟨#[]⟩, .int .i64 3]) ∧ Below w.heap.size w w' := by
  have hkb : decide (k = 1 ∨ k = 2) = false := by simpa using hk
  clear hk
  go_enter Tryz.func31, Tryz.ntmps31
  go_wp2_with (first | (go_at_call 60; refine (fr_kind k _ false hkb.symm).mono ?_; rintro e w1 ⟨rfl, rfl⟩))
  go_ret2
  exact ⟨rfl, (Below.refl _ _).alloc (Nat.le_refl _) _⟩

set_option maxRecDepth 100000 in
set_option maxHeartbeats 1000000 in
theorem fr_encode_long (k t : Int) (s : ByteArray) (w : World) (hk : k = 1 ∨ k = 2) (ht : -9223372036854775808 ≤ t ∧ t ≤ 9223372036854775807) (hs : s.size ≤ 1000000) (hl : 65536 < (body k t s.data.toList).length) :
    Calls Tryz.prog 31 #[rec k t s] w fun e w' => e = .returned (.tuple #[.string ⟨#[]⟩, .int .i64 4]) ∧ Below w.heap.size w w' := by
  have hbl := body_len k t s.data.toList
  have hsl : s.data.toList.length = s.size := by simp
  have hkb : decide (k = 1 ∨ k = 2) = true := by simpa using hk
  have hdl := digs_len (fold_le ht.1 ht.2)
  have h0 : Sl w.heap.size ((w.alloc (.cells #[.int .i64 k, .int .i64 t, .string s] 57)).alloc (.cells #[.int .u8 k] 5)) 1 (.slice (some ⟨w.heap.size + 1, 0, none⟩) 1 1) 1 (bv [UInt8.ofNat k.toNat]) := by
    have := Sl.made (B := w.heap.size) (w.alloc (.cells #[.int .i64 k, .int .i64 t, .string s] 57)) #[.int .u8 k] 5 1 1 1 (by simp) (by omega) (by decide) (by simp)
    have e : bv [UInt8.ofNat k.toNat] = [.int .u8 k] := by rcases hk with rfl | rfl <;> rfl
    rw [e]
    simpa using this
  have ha0 := At.alloc w [.int .i64 k, .int .i64 t, .string s] 57
  have hbl0 : Below w.heap.size w (w.alloc (.cells #[.int .i64 k, .int .i64 t, .string s] 57)) := (Below.refl _ _).alloc (Nat.le_refl _) _
  have ha1 := ha0.on ((Below.refl _ _).alloc (Nat.le_refl _) (.cells #[.int .u8 k] 5))
  have hb1 : Below w.heap.size w ((w.alloc (.cells #[.int .i64 k, .int .i64 t, .string s] 57)).alloc (.cells #[.int .u8 k] 5)) := hbl0.alloc hbl0.size _
  generalize hD : (digs (fold t)).length = D at *
  have hl' : 65536 < 1 + D + s.size := by omega
  have HD := Lib.hid hD
  clear hD hl hbl hsl
  go_enter Tryz.func31, Tryz.ntmps31
  go_wp2_with (first | (go_at_call 60; refine (fr_kind k _ true hkb.symm).mono ?_; rintro e w1 ⟨rfl, rfl⟩) | (go_at_call 61; refine (putint_one _ t _ w.heap.size _ h0 ht hb1.size).mono ?_; rw [HD.out]; rintro e w1 ⟨a1, c1, rfl, k1, u1⟩; have ha2 := ha1.upd u1 (by simp [Value.ownBlock]); have hb2 := hb1.upd u1 hb1.size (by simp [Value.ownBlock]; omega); have q2 : w1.cell? ⟨w.heap.size, 2, none⟩ = some (.string s) := (ha2.2 2 (by simp)).1))
  go_ret2
  exact ⟨rfl, hb2⟩

theorem fr_encode (k t : Int) (s : ByteArray) (w : World) (ht : -9223372036854775808 ≤ t ∧ t ≤ 9223372036854775807) (hs : s.size ≤ 1000000) :
    Calls Tryz.prog 31 #[rec k t s] w fun e w' => e = .returned (.tuple #[.string (bstr (encS k t s.data.toList)), .int .i64 (err k t s.data.toList : Nat)]) ∧ Below w.heap.size w w' := by
  unfold encS
  by_cases hk : k = 1 ∨ k = 2
  · by_cases hl : (body k t s.data.toList).length ≤ 65536
    · have he := err_zero (t := t) hk hl
      rw [if_pos he, he]
      exact fr_encode_ok k t s w hk ht hs hl
    · have he : err k t s.data.toList = 4 := by unfold err; rw [if_neg (by omega), if_pos (by omega)]
      rw [he, if_neg (by omega)]
      exact fr_encode_long k t s w hk ht hs (by omega)
  · have he : err k t s.data.toList = 3 := by unfold err; rw [if_pos (by omega)]
    rw [he, if_neg (by omega)]
    exact fr_encode_kind k t s w hk ht hs
end Go.Proofs.YtmimfkhkilijcaaGreat

/- Contracts of frame's calls: records read. -/
namespace Go.Proofs.YtmimfkhkilijcaaGreat
set_option maxRecDepth 4000
open Go.ChangeShapes Go.WideShapes Go.ChangeAt Go.RowKit
open PVar PCrc PFrame
set_option linter.unusedVariables false

set_option maxRecDepth 100000 in
set_option maxHeartbeats 1000000 in
theorem fr_first (s : ByteArray) (w : World) (hs : s.size ≤ 140737488355328) :
    Calls Tryz.prog 114 #[.string s] w fun e w' => e = .returned (.tuple #[.string (bstr (ffirst s.data.toList).1), .int .i64 (ffirst s.data.toList).2.1, .int .i64 (ffirst s.data.toList).2.2]) ∧ w = w' := by
  have hg := var_get s w (by unfold maxLen; omega)
  have hsl : s.data.toList.length = s.size := by simp
  by_cases h1 : (get s.data.toList).2.2 ≠ 0
  · have e : ffirst s.data.toList = ([], 0, (get s.data.toList).2.2) := by unfold ffirst; rw [if_pos h1]
    have h0 : get s.data.toList = (0, 0, (get s.data.toList).2.2) := by
      rcases get_err s.data.toList with h | h | h
      · exact absurd h h1
      all_goals rw [h]
    rw [e]
    rw [h0] at hg
    generalize (get s.data.toList).2.2 = er at *
    have HG := Lib.hid hg
    have h1' : ((er : Int) == 0) = false := by simpa using h1
    clear hg h0 e
    go_enter Tryz.func114, Tryz.ntmps114
    go_wp2_with (first | (go_at_call 139; refine HG.out.mono ?_; rintro e w1 ⟨rfl, rfl⟩))
    go_ret3
    exact ⟨rfl, rfl⟩
  have e1 : (get s.data.toList).2.2 = 0 := Decidable.not_not.1 h1
  obtain ⟨s1, _, s3, s4⟩ := @get_spec s.data.toList (get s.data.toList).1 (get s.data.toList).2.1 (by rw [← e1])
  have hdl := digs_len s4
  rw [← s1] at hdl
  rw [e1] at hg
  have HF := Lib.hid (show ffirst s.data.toList = _ from rfl)
  clear HF
  unfold ffirst
  rw [if_neg h1]
  clear h1 e1 s1
  generalize (get s.data.toList).1 = k at *
  generalize (get s.data.toList).2.1 = n at *
  rw [hsl] at s3 ⊢
  have HG := Lib.hid hg
  clear hg
  by_cases h2 : k < 2 ∨ 65536 < k
  · rw [if_pos h2]
    go_enter Tryz.func114, Tryz.ntmps114
    go_wp2_with (first | (go_at_call 139; refine HG.out.mono ?_; rintro e w1 ⟨rfl, rfl⟩))
    all_goals
      go_ret3
      exact ⟨rfl, rfl⟩
  rw [if_neg h2]
  by_cases h3 : s.size < n + k + 4
  · rw [if_pos h3]
    go_enter Tryz.func114, Tryz.ntmps114
    go_wp2_with (first | (go_at_call 139; refine HG.out.mono ?_; rintro e w1 ⟨rfl, rfl⟩))
    go_ret3
    exact ⟨rfl, rfl⟩
  · rw [if_neg h3]
    have hcut := fun w => cut_run (P := Tryz.prog) w 9 s n (n + k + 4) n (n + k + 4) rfl (by omega) Tryz.underlying9 (by omega) (by omega)
    rw [show n + k + 4 - n = k + 4 by omega] at hcut
    go_enter Tryz.func114, Tryz.ntmps114
    go_wp2_with (first | (go_at_call 139; refine HG.out.mono ?_; rintro e w1 ⟨rfl, rfl⟩))
    go_ret3
    exact ⟨rfl, rfl⟩

/-- A record's value. -/
abbrev frec (r : R) : Value := rec r.1 r.2.1 (bstr r.2.2)

set_option maxRecDepth 100000 in
set_option maxHeartbeats 1000000 in
theorem fr_read (s : ByteArray) (w : World) (hs : s.size ≤ 140737488355328) (h1 : 1 ≤ s.size) :
    Calls Tryz.prog 116 #[.string s] w fun e w' => e = .returned (.tuple #[frec (rget s.data.toList).1, .int .i64 (rget s.data.toList).2]) ∧ Below w.heap.size w w' := by
  have hsl : s.data.toList.length = s.size := by simp
  have hd0 := drop_cons s 0 h1
  rw [List.drop_zero] at hd0
  rw [hd0, rget_cons]
  have hfrom := fun w => from_run (P := Tryz.prog) w 9 s 1 1 rfl Tryz.underlying9 h1
  have hgi := fun w => var_getint (bstr (s.data.toList.drop 1)) w (by show (s.data.toList.drop 1).toArray.size ≤ _; rw [List.size_toArray, List.length_drop]; unfold maxLen; omega)
  have hrl : (s.data.toList.drop (0 + 1)).length = s.size - 1 := by rw [List.length_drop]; omega
  have hdrop : ∀ n, s.data.toList.drop (1 + n) = (s.data.toList.drop 1).drop n := fun n => by rw [List.drop_drop]
  have hk0 := (s[0]).toNat_lt
  generalize hc : (s[0]).toNat = c at *
  have HC : Hid (s[0].toNat = c) := hc
  have hbel : Below w.heap.size w (w.alloc (.cells #[.int .i64 0, .int .i64 0, .string ⟨#[]⟩] 57)) := (Below.refl _ _).alloc (Nat.le_refl _) _
  by_cases hk : c ≠ 1 ∧ c ≠ 2
  · rw [if_pos hk]
    have hkb : decide ((c : Int) = 1 ∨ (c : Int) = 2) = false := by simp; omega
    go_enter Tryz.func116, Tryz.ntmps116
    go_wp2_with (first | (go_at_call 60; refine (fr_kind c _ false hkb.symm).mono ?_; rintro e w1 ⟨rfl, rfl⟩))
    go_returns
    exact ⟨rfl, hbel⟩
  rw [if_neg hk]
  have hkb : decide ((c : Int) = 1 ∨ (c : Int) = 2) = true := by simp; omega
  simp only [Nat.zero_add] at hrl ⊢
  clear hd0
  generalize hT : s.data.toList.drop 1 = tl at *
  have HT := Lib.hid hT
  clear hT
  have hsp := @get_spec tl (get tl).1 (get tl).2.1
  by_cases he : (get tl).2.2 ≠ 0
  · rw [if_pos he]
    have he' : (((get tl).2.2 : Int) == 0) = false := by simpa using he
    generalize get tl = g at *
    have HGI := Lib.hid hgi
    clear hgi hsp hdrop
    go_enter Tryz.func116, Tryz.ntmps116
    go_wp2_with (first | (go_at_call 60; refine (fr_kind c _ true hkb.symm).mono ?_; rintro e w1 ⟨rfl, rfl⟩) | (go_at_call 140; refine (HGI.out _).mono ?_; rintro e w1 ⟨rfl, rfl⟩))
    go_returns
    exact ⟨rfl, hbel⟩
  · rw [if_neg he]
    have he0 : (get tl).2.2 = 0 := Decidable.not_not.1 he
    obtain ⟨s1, s2, s3, s4⟩ := hsp (by rw [← he0])
    rw [he0] at hgi
    clear hsp he he0
    generalize (get tl).2.1 = n at *
    generalize (get tl).1 = m at *
    have hfr2 := fun w => from_run (P := Tryz.prog) w 9 s (1 + n) (1 + n) (by omega) Tryz.underlying9 (by omega)
    rw [hdrop] at hfr2
    have hn : n ≤ s.size := by omega
    have HGI := Lib.hid hgi
    clear hgi s1 s2 hdrop
    go_enter Tryz.func116, Tryz.ntmps116
    go_wp2_with (first | (go_at_call 60; refine (fr_kind c _ true hkb.symm).mono ?_; rintro e w1 ⟨rfl, rfl⟩) | (go_at_call 140; refine (HGI.out _).mono ?_; rintro e w1 ⟨rfl, rfl⟩))
    go_returns
    exact ⟨rfl, (Below.refl _ _).alloc (Nat.le_refl _) _⟩

theorem size_bstr (l : List UInt8) : (bstr l).size = l.length := by simp [ByteArray.size]

set_option maxRecDepth 100000 in
set_option maxHeartbeats 1000000 in
theorem fr_get (s : ByteArray) (w : World) (hs : s.size ≤ 140737488355328) :
    Calls Tryz.prog 79 #[.string s] w fun e w' => e = .returned (.tuple #[frec (fget s.data.toList).1, .int .i64 (fget s.data.toList).2.1, .int .i64 (fget s.data.toList).2.2]) ∧ Below w.heap.size w w' := by
  have hf := fun w => fr_first s w hs
  have hbel : Below w.heap.size w (w.alloc (.cells #[.int .i64 0, .int .i64 0, .string ⟨#[]⟩] 57)) := (Below.refl _ _).alloc (Nat.le_refl _) _
  have hat := At.alloc w [.int .i64 0, .int .i64 0, .string ⟨#[]⟩] 57
  by_cases hb : (ffirst s.data.toList).2.2 ≠ 0
  · obtain ⟨e1, e2⟩ := ffirst_bad hb
    rw [e1] at hf
    rw [e2]
    generalize (ffirst s.data.toList).2.2 = er at *
    have he' : ((er : Int) == 0) = false := by simpa using hb
    have HF := Lib.hid hf
    clear hf e1 e2
    go_enter Tryz.func79, Tryz.ntmps79
    go_wp2_with (first | (go_at_call 114; refine (HF.out _).mono ?_; rintro e w1 ⟨rfl, rfl⟩))
    go_returns
    exact ⟨rfl, hbel⟩
  obtain ⟨n, k, g1, g2, g3, g4, g5, g6, g7⟩ := ffirst_ok (Decidable.not_not.1 hb)
  rw [g6] at hf
  rw [g7]
  have hlen : ((s.data.toList.drop n).take (k + 4)).length = k + 4 := by
    rw [List.length_take, List.length_drop]; omega
  generalize (s.data.toList.drop n).take (k + 4) = S at *
  have hopen := fun (g : Nat) (w : World) (h : Tab w g) => crc_open g (bstr S) w h (by rw [size_bstr]; omega)
  have HF := Lib.hid hf
  clear hf hb g1 g6 g7
  by_cases ho : opn S = true
  · have hol : (opened S).length = k := by unfold opened; rw [if_pos ho, List.length_take]; omega
    have hread := fun w => fr_read (bstr (opened S)) w (by rw [size_bstr]; omega) (by rw [size_bstr]; omega)
    rw [show (bstr S).data.toList = S from rfl, ho] at hopen
    rw [show (bstr (opened S)).data.toList = opened S from rfl] at hread
    rw [if_neg (by rw [ho]; decide)]
    generalize opened S = O at *
    have HO := Lib.hid hopen
    by_cases hr : (rget O).2 ≠ 0
    · have he' : (((rget O).2 : Int) == 0) = false := by simpa using hr
      rw [if_pos hr]
      generalize rget O = r at *
      have HR := Lib.hid hread
      clear hopen hread ho hol
      go_enter Tryz.func79, Tryz.ntmps79
      go_wp2_with (first | (go_at_call 114; refine (HF.out _).mono ?_; rintro e w1 ⟨rfl, rfl⟩) | (go_at_call 63; refine (crc_new _).mono ?_; rintro e w2 ⟨g, rfl, hg, ht2, b2⟩) | (go_at_call 115; refine (HO.out g _ ht2).mono ?_; rintro e w3 ⟨rfl, b3⟩) | (go_at_call 116; refine (HR.out _).mono ?_; rintro e w4 ⟨rfl, b4⟩; have hb4 := on_below (on_below (on_below hbel b2) b3) b4; obtain ⟨hl4, q0, f0, q1, f1, q2, f2⟩ := (((hat.on b2).on b3).on b4).three; obtain ⟨p0, p1, p2⟩ := (((hat.on b2).on b3).on b4).put3))
      refine bodyPost_ret (v := .tuple #[frec zr, .int .i64 0, .int .i64 r.2]) (by simp [results, Tryz.results79, go_sem, p0, p1, p2, hl4, zr]) rfl ⟨rfl, (((hb4.setCell (Nat.le_refl _) _).setCell (Nat.le_refl _) _).setCell (Nat.le_refl _) _).alloc (by simp; omega) _⟩
    · have he' : (((rget O).2 : Int) == 0) = true := by simpa using hr
      rw [if_neg hr]
      generalize rget O = r at *
      have HR := Lib.hid hread
      clear hopen hread ho hol
      go_enter Tryz.func79, Tryz.ntmps79
      go_wp2_with (first | (go_at_call 114; refine (HF.out _).mono ?_; rintro e w1 ⟨rfl, rfl⟩) | (go_at_call 63; refine (crc_new _).mono ?_; rintro e w2 ⟨g, rfl, hg, ht2, b2⟩) | (go_at_call 115; refine (HO.out g _ ht2).mono ?_; rintro e w3 ⟨rfl, b3⟩) | (go_at_call 116; refine (HR.out _).mono ?_; rintro e w4 ⟨rfl, b4⟩; have hb4 := on_below (on_below (on_below hbel b2) b3) b4; obtain ⟨hl4, q0, f0, q1, f1, q2, f2⟩ := (((hat.on b2).on b3).on b4).three; obtain ⟨p0, p1, p2⟩ := (((hat.on b2).on b3).on b4).put3))
      refine bodyPost_ret (v := .tuple #[frec r.1, .int .i64 (n + k + 4 : Nat), .int .i64 0]) (by simp [results, Tryz.results79, go_sem, p0, p1, p2, hl4]) rfl ⟨rfl, (((hb4.setCell (Nat.le_refl _) _).setCell (Nat.le_refl _) _).setCell (Nat.le_refl _) _).alloc (by simp; omega) _⟩
  · have ho' : opn S = false := by simpa using ho
    rw [if_pos ho']
    rw [show (bstr S).data.toList = S from rfl, ho'] at hopen
    have HO := Lib.hid hopen
    clear hopen
    go_enter Tryz.func79, Tryz.ntmps79
    go_wp2_with (first | (go_at_call 114; refine (HF.out _).mono ?_; rintro e w1 ⟨rfl, rfl⟩) | (go_at_call 63; refine (crc_new _).mono ?_; rintro e w2 ⟨g, rfl, hg, ht2, b2⟩) | (go_at_call 115; refine (HO.out g _ ht2).mono ?_; rintro e w3 ⟨rfl, b3⟩; have hb3 := on_below (on_below hbel b2) b3; obtain ⟨hl3, q0, f0, q1, f1, q2, f2⟩ := ((hat.on b2).on b3).three; obtain ⟨p0, p1, p2⟩ := ((hat.on b2).on b3).put3))
    refine bodyPost_ret (v := .tuple #[frec zr, .int .i64 0, .int .i64 5]) (by simp [results, Tryz.results79, go_sem, p0, p1, p2, zr]) rfl ⟨rfl, ((hb3.setCell (Nat.le_refl _) _).setCell (Nat.le_refl _) _).setCell (Nat.le_refl _) _⟩
end Go.Proofs.YtmimfkhkilijcaaGreat
