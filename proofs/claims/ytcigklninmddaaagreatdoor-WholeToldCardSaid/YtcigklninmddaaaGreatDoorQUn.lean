/- quote: what stands in marks, piece by piece. -/
import Derived.Test.YtcigklninmddaaaGreatDoorQParse
import Derived.Test.YtcigklninmddaaaGreatDoorQRef3
import Derived.Lib.IndexMore
namespace Go.Proofs.YtcigklninmddaaaGreatDoor
set_option maxRecDepth 4000
open Go.ChangeShapes Go.WideShapes Go.ChangeAt Go.RowKit
open PSign PHex PQuote
set_option linter.unusedVariables false

/-- strconv.ParseUint, whatever it is: a number, and none or some error. -/
def SpPost (w : World) (e : Ending) (w' : World) : Prop :=
  ∃ (v : Nat) (x : Value), e = .returned (.tuple #[.int .u64 v, x]) ∧ v < 18446744073709551616 ∧ (x = .nilIface ∨ ∃ p, x = .iface 146 (.pointer (some p))) ∧ Below w.heap.size w w'

set_option maxRecDepth 100000 in
set_option maxHeartbeats 1000000 in
theorem sp_of (b : Int) (s : ByteArray) (w : World) (hb : b = 8 ∨ b = 31) (he : Env w) (hs : s.size ≤ 4096)
    (h : Calls Tryz.prog 105 #[.string s, .int .i64 16, .int .i64 b] w (PuPost w)) :
    Calls Tryz.prog 113 #[.string s, .int .i64 16, .int .i64 b] w (SpPost w) := by
  have H := Lib.hid h
  have hsyn := fun (w' : World) (he' : Env w') (ev : Value) (h1 : w'.cell? ⟨3, 0, none⟩ = some ev) (h2 : ev = .nilIface ∨ ∃ te pe, ev = .iface te pe) => Tryz.strconv_toError_syntax ⟨#[80, 97, 114, 115, 101, 85, 105, 110, 116]⟩ s 16 b ev w' (by omega) h1 h2
  have hrng := fun (w' : World) (he' : Env w') (ev : Value) (h1 : w'.cell? ⟨4, 0, none⟩ = some ev) (h2 : ev = .nilIface ∨ ∃ te pe, ev = .iface te pe) => Tryz.strconv_toError_range ⟨#[80, 97, 114, 115, 101, 85, 105, 110, 116]⟩ s 16 b ev w' (by omega) h1 h2
  have HSYN := Lib.hid hsyn
  have HRNG := Lib.hid hrng
  clear h hsyn hrng
  go_enter Tryz.func113, Tryz.ntmps113
  go_wp2_with (go_at_call 105; refine H.out.mono ?_)
  rintro e w1 ⟨v, x, rfl, hv, hx, hb1⟩
  have he1 := he.on hb1
  rcases hx with rfl | rfl | rfl
  · go_wp2
    go_ret2
    exact ⟨v, _, rfl, hv, .inl rfl, hb1⟩
  · obtain ⟨ev, h1, h2⟩ := he1.rng
    have HR := Lib.hid (HRNG.out w1 he1 ev h1 h2)
    go_wp2_with (go_at_call 77; refine HR.out.mono ?_; rintro e w2 ⟨N, rfl, -, -, hb2⟩)
    go_ret2
    exact ⟨v, _, rfl, hv, .inr ⟨_, rfl⟩, on_below hb1 hb2⟩
  · obtain ⟨ev, h1, h2⟩ := he1.syn
    have HR := Lib.hid (HSYN.out w1 he1 ev h1 h2)
    go_wp2_with (go_at_call 77; refine HR.out.mono ?_; rintro e w2 ⟨N, rfl, -, -, hb2⟩)
    go_ret2
    exact ⟨v, _, rfl, hv, .inr ⟨_, rfl⟩, on_below hb1 hb2⟩

set_option maxHeartbeats 1000000 in
theorem sp_ok (b : Int) (s : ByteArray) (m : Nat) (w : World)
    (h : Calls Tryz.prog 105 #[.string s, .int .i64 16, .int .i64 b] w fun e w' => e = .returned (.tuple #[.int .u64 m, .nilIface]) ∧ Below w.heap.size w w') :
    Calls Tryz.prog 113 #[.string s, .int .i64 16, .int .i64 b] w fun e w' => e = .returned (.tuple #[.int .u64 m, .nilIface]) ∧ Below w.heap.size w w' := by
  have H := Lib.hid h
  clear h
  go_enter Tryz.func113, Tryz.ntmps113
  go_wp2_with (go_at_call 105; refine H.out.mono ?_; rintro e w1 ⟨rfl, hb1⟩)
  go_ret2
  exact ⟨rfl, hb1⟩

/-- Some piece, and by how many bytes it is told, n at most; by none, if it can't be. -/
def PiecePost (n : Nat) (w : World) (e : Ending) (w' : World) : Prop :=
  ∃ (l : List UInt8) (k : Nat), e = .returned (.tuple #[.string (bstr l), .int .i64 k]) ∧ k ≤ n ∧ l.length ≤ k ∧ Below w.heap.size w w'

theorem one_text_mod (v : Nat) (w : World) (N : Nat) (hN : w.heap.size = N) :
    (convert 44 9 (.slice (some ⟨N, 0, none⟩) 1 1)).run Tryz.prog (w.alloc (.cells #[.int .u8 ((v : Int) % 256)] 5)) = .ok (.string (bstr [UInt8.ofNat v])) (w.alloc (.cells #[.int .u8 ((v : Int) % 256)] 5)) := by
  have h := one_text_q (UInt8.ofNat v) w N hN
  have e : ((UInt8.ofNat v).toNat : Int) = (v : Int) % 256 := by simp
  rw [e] at h
  exact h

set_option maxRecDepth 100000 in
set_option maxHeartbeats 1000000 in
theorem stray_any (r : ByteArray) (w : World) (he : Env w) (hs : r.size ≤ 4096) :
    Calls Tryz.prog 101 #[.string r] w (PiecePost (r.size + 2) w) := by
  by_cases h2 : r.size < 2
  · have h2' : (r.size : Int) < 2 := by omega
    clear h2
    go_enter Tryz.func101, Tryz.ntmps101
    go_wp2
    go_ret2
    exact ⟨[], 0, rfl, by omega, by simp, Below.refl _ _⟩
  · have h2' : ¬ (r.size : Int) < 2 := by omega
    have hsl : (2 : Int) ≤ r.size := by omega
    have hp := sp_of 8 (r.extract 0 2) w (.inl rfl) he (by simp; omega) (pu_any8 (r.extract 0 2) w (by unfold maxLen; simp; omega))
    have HP := Lib.hid hp
    have hr2 : 2 ≤ r.size := by omega
    clear hp
    go_enter Tryz.func101, Tryz.ntmps101
    go_wp2_with (go_at_call 113; refine HP.out.mono ?_)
    rintro e w1 ⟨v, x, rfl, hv, hx, hb1⟩
    rcases hx with rfl | ⟨p, rfl⟩
    · have kc := one_text_mod v w1 w1.heap.size rfl
      have hb2 : Below w.heap.size w (w1.alloc (.cells #[.int .u8 ((v : Int) % 256)] 5)) := hb1.alloc hb1.size _
      go_wp2
      go_ret2
      exact ⟨[UInt8.ofNat v], 4, rfl, by omega, by simp, hb2⟩
    · go_wp2
      go_ret2
      exact ⟨[], 0, rfl, by omega, by simp, hb1⟩

set_option maxRecDepth 100000 in
set_option maxHeartbeats 1000000 in
theorem stray_ok (m : Nat) (rest : List UInt8) (w : World) (h1 : 128 ≤ m) (h2 : m ≤ 255) (hs : rest.length ≤ 100000) :
    Calls Tryz.prog 101 #[.string (bstr (hex m ++ rest))] w fun e w' => e = .returned (.tuple #[.string (bstr [UInt8.ofNat m]), .int .i64 4]) ∧ Below w.heap.size w w' := by
  have hlen : (hex m).length = 2 := by rw [hex_high (by omega), hex_low (by omega)]; rfl
  have hsz : (bstr (hex m ++ rest)).size = rest.length + 2 := by rw [bstr_len, List.length_append, hlen]; omega
  have hex2 : (bstr (hex m ++ rest)).extract 0 2 = bstr (hex m) := by
    apply ByteArray.ext
    apply Array.ext'
    rw [Lib.extract_data]
    show List.take (2 - 0) (List.drop 0 (hex m ++ rest)) = hex m
    rw [List.drop_zero, Nat.sub_zero, ← hlen, List.take_left]
  have hp := sp_ok 8 (bstr (hex m)) m w (pu_ok8 (bstr (hex m)) m w rfl h2 (by rw [bstr_len, hlen]; decide))
  rw [← hex2] at hp
  have HP := Lib.hid hp
  clear hp hlen hex2
  generalize bstr (hex m ++ rest) = t at *
  have hszI : (t.size : Int) = (rest.length : Int) + 2 := by omega
  have hrI : (rest.length : Int) ≤ 100000 := by omega
  have h2' : ¬ ((t.size : Int) < 2) := by omega
  have hsl : (2 : Int) ≤ t.size := by omega
  clear hszI hsz
  go_enter Tryz.func101, Tryz.ntmps101
  go_wp2_with (go_at_call 113; refine HP.out.mono ?_)
  rintro e w1 rfl hb1
  have kc := one_text_q (UInt8.ofNat m) w1 w1.heap.size rfl
  have e8 : ((UInt8.ofNat m).toNat : Int) = (m : Int) := by simp; omega
  rw [e8] at kc
  clear e8
  have hb2 : Below w.heap.size w (w1.alloc (.cells #[.int .u8 (m : Int)] 5)) := hb1.alloc hb1.size _
  go_wp2
  go_ret2
  exact ⟨rfl, hb2⟩

/-! ### Signs by their numbers -/

theorem index_close (l rest : List UInt8) (h : ∀ c ∈ l, c ≠ 125) : Lib.index (l ++ 125 :: rest) [125] = (l.length : Int) := by
  refine Lib.index_first (i := l.length) (by simp) ?_ ?_
  · simp [Lib.occAt]
  · intro j hj
    have hne := h _ (List.getElem_mem hj)
    simp only [Lib.occAt]
    have h2 : ((125 : UInt8) == l[j]) = false := by
      rw [beq_eq_false_iff_ne]
      exact fun e => hne e.symm
    rw [List.drop_append_of_le_length (by omega), List.drop_eq_getElem_cons hj, List.cons_append]
    show ((125 : UInt8) == l[j] && ([] : List UInt8).isPrefixOf _) = false
    rw [h2]
    rfl
theorem cut_close (l rest : List UInt8) (h : ∀ c ∈ l, c ≠ 125) : Lib.cut (l ++ 125 :: rest) [125] = (l, rest, true) := by
  unfold Lib.cut
  rw [index_close l rest h, if_pos (by omega)]
  simp
theorem cut_len (l : List UInt8) (h : (Lib.cut l [125]).2.2 = true) : (Lib.cut l [125]).1.length + 1 ≤ l.length := by
  unfold Lib.cut at h ⊢
  split
  · rename_i h0
    have := Lib.index_room l [125] h0
    simp at this ⊢
    omega
  · rename_i h0
    rw [if_neg h0] at h
    cases h
theorem cut_len' (l : List UInt8) : (Lib.cut l [125]).1.length ≤ l.length := by
  unfold Lib.cut
  split
  · simp
    omega
  · exact Nat.le_refl _
theorem enc_len (n : Int) : (Utf8.encode n).size ≤ 4 := by
  unfold Utf8.encode
  simp only
  (repeat' split) <;> simp [ByteArray.size]


set_option maxRecDepth 100000 in
set_option maxHeartbeats 1000000 in
theorem cut_in (s : ByteArray) (c : UInt8) (w : World) (hs : s.size ≤ 200000) :
    Calls Tryz.prog 37 #[.string s, .string ⟨#[c]⟩] w fun e w' => e = .returned (.tuple #[.string (bstr (Lib.cut s.data.toList [c]).1), .string (bstr (Lib.cut s.data.toList [c]).2.1), .bool (Lib.cut s.data.toList [c]).2.2]) ∧ ∃ n, w' = w.drewN n := by
  have hi : Calls Tryz.prog 57 #[.string s, .string ⟨#[c]⟩] w fun e w' => e = .returned (.int .i64 (Lib.index s.data.toList [c])) ∧ w = w' := (Tryz.stringslite_Index_one s c w).mono fun e w' h => ⟨by rw [h.1, Lib.index_one], h.2.symm⟩
  have hge := Lib.index_ge s.data.toList [c]
  have hro := Lib.index_room s.data.toList [c]
  have hrl : s.data.toList.length = s.size := by simp
  rw [hrl] at hro
  simp only [List.length_cons, List.length_nil] at hro
  unfold Lib.cut
  generalize Lib.index s.data.toList [c] = i at *
  by_cases h0 : 0 ≤ i
  · obtain ⟨k, rfl⟩ := Int.eq_ofNat_of_zero_le h0
    have hk := hro h0
    have hk1 : k + 1 ≤ s.size := by omega
    rw [if_pos h0]
    simp only [Int.toNat_natCast, List.length_cons, List.length_nil]
    have e1 : bstr (s.data.toList.take k) = s.extract 0 k := by
      apply ByteArray.ext
      apply Array.ext'
      rw [Lib.extract_data]
      simp
    have e2 : bstr (s.data.toList.drop (k + (0 + 1))) = s.extract (k + 1) s.size := by
      apply ByteArray.ext
      apply Array.ext'
      have := ext_drop' s (k + 1)
      rw [this]
    rw [e1, e2]
    have HI := Lib.hid hi
    have hkI : (k : Int) ≤ (s.size : Int) := by omega
    have hkI1 : (k : Int) + 1 ≤ (s.size : Int) := by omega
    have hw : IntKind.i64.wrap ((k : Int) + 1) = (k : Int) + 1 := by rw [IntKind.wrap_i64]; omega
    clear hi hge hro hrl h0 hk e1 e2
    go_enter Tryz.func37, Tryz.ntmps37
    go_wp2_with (first | (go_at_call 57; refine HI.out.mono ?_; rintro e w1 ⟨rfl, rfl⟩))
    go_quiet (fail)
    go_wp2
    go_ret3
    exact ⟨rfl, _, rfl⟩
  · have h1 : i = -1 := by omega
    subst h1
    rw [if_neg h0]
    have HI := Lib.hid hi
    clear hi hge hro hrl h0
    go_enter Tryz.func37, Tryz.ntmps37
    go_wp2_with (first | (go_at_call 57; refine HI.out.mono ?_; rintro e w1 ⟨rfl, rfl⟩))
    go_ret3
    exact ⟨rfl, 0, rfl⟩

theorem str_cut (s : ByteArray) (c : UInt8) (w : World) (hs : s.size ≤ 200000) :
    Calls Tryz.prog 24 #[.string s, .string ⟨#[c]⟩] w fun e w' => e = .returned (.tuple #[.string (bstr (Lib.cut s.data.toList [c]).1), .string (bstr (Lib.cut s.data.toList [c]).2.1), .bool (Lib.cut s.data.toList [c]).2.2]) ∧ ∃ n, w' = w.drewN n := by
  have h := cut_in s c w hs
  have H := Lib.hid h
  clear h
  go_enter Tryz.func24, Tryz.ntmps24
  go_wp2_with (first | (go_at_call 37; refine H.out.mono ?_; rintro e w1 ⟨rfl, n, rfl⟩))
  go_ret3
  exact ⟨rfl, n, rfl⟩

set_option maxRecDepth 100000 in
set_option maxHeartbeats 1000000 in
theorem num_any (r : ByteArray) (w : World) (he : Env w) (hs : r.size ≤ 4096) :
    Calls Tryz.prog 102 #[.string r] w (PiecePost (r.size + 3) w) := by
  have hcut := str_cut r 125 w (by omega)
  have hl1 := cut_len' r.data.toList
  have hl2 := cut_len r.data.toList
  have hrl : r.data.toList.length = r.size := by simp
  rw [hrl] at hl1 hl2
  have HCUT := Lib.hid hcut
  clear hcut hrl
  generalize Lib.cut r.data.toList [125] = c at *
  obtain ⟨c1, c2, c3⟩ := c
  simp only at hl1 hl2 HCUT
  cases c3 with
  | false =>
    clear hl2
    go_enter Tryz.func102, Tryz.ntmps102
    go_wp2_with (first | (go_at_call 24; refine HCUT.out.mono ?_; rintro e w1 ⟨rfl, n, rfl⟩))
    go_ret2
    exact ⟨[], 0, rfl, by omega, by simp, below_drewN (Below.refl _ _) n⟩
  | true =>
    have hl3 := hl2 rfl
    have hp := fun (w' : World) (he' : Env w') => sp_of 31 (bstr c1) w' (.inr rfl) he' (by rw [bstr_len]; omega) (pu_any31 (bstr c1) w' (by unfold maxLen; rw [bstr_len]; omega))
    have HP := Lib.hid hp
    have hcl : (bstr c1).size = c1.length := bstr_len c1
    clear hp hl2
    go_enter Tryz.func102, Tryz.ntmps102
    go_wp2_with (first | (go_at_call 24; refine HCUT.out.mono ?_; rintro e w1 ⟨rfl, n, rfl⟩) | (go_at_call 113; refine (HP.out _ (he.on (below_drewN (Below.refl _ _) n))).mono ?_))
    rintro e w2 ⟨v, x, rfl, hv, hx, hb2⟩
    have hb3 : Below w.heap.size w w2 := on_below (below_drewN (Below.refl _ _) n) hb2
    rcases hx with rfl | ⟨p, rfl⟩
    · go_wp2
      go_ret2
      have hpost : ∀ (z : Int) (k : Int), k = ((c1.length + 4 : Nat) : Int) → PiecePost (r.size + 3) w (.returned (.tuple #[.string (Utf8.encode z), .int .i64 k])) w2 := by
        intro z k hk
        have hz := enc_len z
        have hz2 : (Utf8.encode z).data.toList.length = (Utf8.encode z).size := by simp
        exact ⟨(Utf8.encode z).data.toList, c1.length + 4, by rw [hk], by omega, by omega, hb3⟩
      exact hpost _ _ (by omega)
    · go_wp2
      go_ret2
      exact ⟨[], 0, rfl, by omega, by simp, hb3⟩

theorem hex_close (m : Nat) : ∀ c ∈ hex m, c ≠ 125 := by
  intro c hc e
  obtain ⟨d, hd, rfl⟩ := hex_mem m hc
  have := dig_range d hd
  rw [e] at this
  have h : (125 : UInt8).toNat = 125 := rfl
  omega

set_option maxRecDepth 100000 in
set_option maxHeartbeats 1000000 in
theorem num_ok (m : Nat) (rest : List UInt8) (w : World) (he : Env w) (h2 : m ≤ 1114111) (hs : rest.length ≤ 100000) :
    Calls Tryz.prog 102 #[.string (bstr (hex m ++ 125 :: rest))] w fun e w' => e = .returned (.tuple #[.string (Utf8.encode (m : Int)), .int .i64 (((hex m).length + 4 : Nat) : Int)]) ∧ Below w.heap.size w w' := by
  have hlen := hex_len 5 m (by omega)
  have hsz : (bstr (hex m ++ 125 :: rest)).size = (hex m).length + rest.length + 1 := by rw [bstr_len]; simp; omega
  have hcut := str_cut (bstr (hex m ++ 125 :: rest)) 125 w (by omega)
  have e0 : Lib.cut (bstr (hex m ++ 125 :: rest)).data.toList [125] = (hex m, rest, true) := cut_close (hex m) rest (hex_close m)
  rw [e0] at hcut
  have hp := fun (w' : World) => sp_ok 31 (bstr (hex m)) m w' (pu_ok31 (bstr (hex m)) m w' rfl (by omega) (by rw [bstr_len]; unfold maxLen; omega))
  have HCUT := Lib.hid hcut
  have HP := Lib.hid hp
  have hw : IntKind.i32.wrap (m : Int) = (m : Int) := by rw [IntKind.wrap_i32]; omega
  have hfin : 3 + ((hex m).length : Int) + 1 = (((hex m).length + 4 : Nat) : Int) := by omega
  have HFIN := Lib.hid hfin
  have hbl : (bstr (hex m)).size = (hex m).length := bstr_len _
  clear hcut e0 hp hsz hfin
  generalize bstr (hex m ++ 125 :: rest) = t at *
  generalize hex m = x at *
  go_enter Tryz.func102, Tryz.ntmps102
  go_wp2_with (first | (go_at_call 24; refine HCUT.out.mono ?_; rintro e w1 ⟨rfl, n, rfl⟩) | (go_at_call 113; refine (HP.out _).mono ?_; rintro e w2 ⟨rfl, hb2⟩))
  go_ret2
  refine ⟨?_, on_below (below_drewN (Below.refl _ _) n) hb2⟩
  rw [← HFIN.out]
  rfl

/-! ### One piece -/

theorem pre2 (a b : UInt8) (l : List UInt8) (c d : UInt8) : Lib.hasPrefix (a :: b :: l) [c, d] = (c == a && d == b) := by
  simp [Lib.hasPrefix, List.isPrefixOf]
theorem trim_cut (l p : List UInt8) : (Lib.hasPrefix l p = true ∧ Lib.trimPrefix l p = l.drop p.length ∧ p.length ≤ l.length) ∨ (Lib.hasPrefix l p = false ∧ Lib.trimPrefix l p = l) := by
  by_cases h : Lib.hasPrefix l p = true
  · refine .inl ⟨h, ?_, ?_⟩
    · unfold Lib.trimPrefix
      rw [if_pos h]
    · have := Lib.hasPrefix_of_take l p
      rw [h] at this
      simp at this
      omega
  · exact .inr ⟨by simpa using h, by unfold Lib.trimPrefix; rw [if_neg h]⟩

set_option maxRecDepth 100000 in
set_option maxHeartbeats 1000000 in
theorem first_any (r : ByteArray) (w : World) (he : Env w) (hs : r.size ≤ 4096) (hne : 1 ≤ r.size) :
    Calls Tryz.prog 81 #[.string r] w (PiecePost r.size w) := by
  have hrl : r.data.toList.length = r.size := by simp
  have hc1 : ∀ w, Calls Tryz.prog 79 #[.string r, .string ⟨#[92, 120]⟩] w fun e w' => e = .returned (.tuple #[.string (bstr (Lib.trimPrefix r.data.toList [92, 120])), .bool (Lib.hasPrefix r.data.toList [92, 120])]) ∧ w' = w := fun w => Tryz.strings_CutPrefix r ⟨#[92, 120]⟩ w
  have hc2 : ∀ w, Calls Tryz.prog 79 #[.string r, .string ⟨#[92, 117, 123]⟩] w fun e w' => e = .returned (.tuple #[.string (bstr (Lib.trimPrefix r.data.toList [92, 117, 123])), .bool (Lib.hasPrefix r.data.toList [92, 117, 123])]) ∧ w' = w := fun w => Tryz.strings_CutPrefix r ⟨#[92, 117, 123]⟩ w
  have hc3 : ∀ w, Calls Tryz.prog 79 #[.string r, .string ⟨#[92]⟩] w fun e w' => e = .returned (.tuple #[.string (bstr (Lib.trimPrefix r.data.toList [92])), .bool (Lib.hasPrefix r.data.toList [92])]) ∧ w' = w := fun w => Tryz.strings_CutPrefix r ⟨#[92]⟩ w
  have hsame : bstr r.data.toList = r := rfl
  rcases trim_cut r.data.toList [92, 120] with ⟨h1, t1, l1⟩ | ⟨h1, t1⟩
  · rw [h1, t1] at hc1
    rw [hrl] at l1
    simp only [List.length_cons, List.length_nil] at l1 hc1
    have hd : (r.data.toList.drop 2).length = r.size - 2 := by rw [List.length_drop, hrl]
    have hst := stray_any (bstr (r.data.toList.drop 2)) w he (by rw [bstr_len]; omega)
    rw [bstr_len, hd, show r.size - 2 + 2 = r.size by omega] at hst
    have HC1 := Lib.hid hc1
    have HST := Lib.hid hst
    clear hc1 hc2 hc3 hst h1 t1 hsame hd
    generalize r.data.toList.drop (0 + 1 + 1) = x at *
    go_enter Tryz.func81, Tryz.ntmps81
    go_wp2_with (first | (go_at_call 79; refine (HC1.out _).mono ?_; rintro e w1 ⟨rfl, rfl⟩) | (go_at_call 101; refine HST.out.mono ?_))
    rintro e w2 ⟨l, k, rfl, hk, hl, hb⟩
    go_wp2
    go_ret2
    exact ⟨l, k, rfl, hk, hl, hb⟩
  · rw [h1, t1, hsame] at hc1
    have HC1 := Lib.hid hc1
    clear hc1 h1 t1
    rcases trim_cut r.data.toList [92, 117, 123] with ⟨h1, t1, l1⟩ | ⟨h1, t1⟩
    · rw [h1, t1] at hc2
      rw [hrl] at l1
      simp only [List.length_cons, List.length_nil] at l1 hc2
      have hd : (r.data.toList.drop 3).length = r.size - 3 := by rw [List.length_drop, hrl]
      have hst := num_any (bstr (r.data.toList.drop 3)) w he (by rw [bstr_len]; omega)
      rw [bstr_len, hd, show r.size - 3 + 3 = r.size by omega] at hst
      have HC2 := Lib.hid hc2
      have HST := Lib.hid hst
      clear hc2 hc3 hst h1 t1 hsame hd
      generalize r.data.toList.drop (0 + 1 + 1 + 1) = x at *
      go_enter Tryz.func81, Tryz.ntmps81
      go_wp2_with (first | (go_at_call 79; first | ((with_reducible refine (HC1.out _).mono ?_); rintro e w1 ⟨rfl, rfl⟩) | ((with_reducible refine (HC2.out _).mono ?_); rintro e w1 ⟨rfl, rfl⟩)) | (go_at_call 102; refine HST.out.mono ?_))
      rintro e w2 ⟨l, k, rfl, hk, hl, hb⟩
      go_wp2
      go_ret2
      exact ⟨l, k, rfl, hk, hl, hb⟩
    · rw [h1, t1, hsame] at hc2
      have HC2 := Lib.hid hc2
      clear hc2 h1 t1
      rcases trim_cut r.data.toList [92] with ⟨h1, t1, l1⟩ | ⟨h1, t1⟩
      · rw [h1, t1] at hc3
        simp only [List.length_cons, List.length_nil] at l1 hc3
        have hd : (r.data.toList.drop 1).length = r.size - 1 := by rw [List.length_drop, hrl]
        have HC3 := Lib.hid hc3
        have hxs : (bstr (r.data.toList.drop 1)).size = r.size - 1 := by rw [bstr_len, hd]
        clear hc3 h1 t1 hsame l1
        by_cases h0 : r.size = 1
        · have hx : r.data.toList.drop 1 = [] := List.eq_nil_of_length_eq_zero (by omega)
          have HC4 : Hid (∀ w, Calls Tryz.prog 79 #[.string r, .string ⟨#[92]⟩] w fun e w' => e = .returned (.tuple #[.string ⟨#[]⟩, .bool true]) ∧ w' = w) := by
            intro w
            have h := HC3.out w
            rw [show r.data.toList.drop (0 + 1) = [] from hx] at h
            exact h
          clear hx HC3 hd hxs
          go_enter Tryz.func81, Tryz.ntmps81
          go_wp2_with (first | (go_at_call 79; first | ((with_reducible refine (HC1.out _).mono ?_); rintro e w1 ⟨rfl, rfl⟩) | ((with_reducible refine (HC2.out _).mono ?_); rintro e w1 ⟨rfl, rfl⟩) | ((with_reducible refine (HC4.out _).mono ?_); rintro e w1 ⟨rfl, rfl⟩)))
          go_ret2
          exact ⟨[], 0, rfl, by omega, by simp, Below.refl _ _⟩
        · have hne1 : (bstr (r.data.toList.drop 1)).toList.isEmpty = false := by
            rw [Lib.toList_data]
            cases hx : r.data.toList.drop 1 with
            | nil => rw [hx] at hd; simp at hd; omega
            | cons a l => rfl
          have hx1 : (1 : Int) ≤ ((bstr (r.data.toList.drop 1)).size : Int) := by omega
          have HC4 : Hid (∀ w, Calls Tryz.prog 79 #[.string r, .string ⟨#[92]⟩] w fun e w' => e = .returned (.tuple #[.string (bstr (r.data.toList.drop 1)), .bool true]) ∧ w' = w) := HC3.out
          clear HC3 hd hxs
          generalize bstr (r.data.toList.drop 1) = x at *
          go_enter Tryz.func81, Tryz.ntmps81
          go_wp2_with (first | (go_at_call 79; first | ((with_reducible refine (HC1.out _).mono ?_); rintro e w1 ⟨rfl, rfl⟩) | ((with_reducible refine (HC2.out _).mono ?_); rintro e w1 ⟨rfl, rfl⟩) | ((with_reducible refine (HC4.out _).mono ?_); rintro e w1 ⟨rfl, rfl⟩)))
          go_ret2
          exact ⟨(x.extract 0 1).data.toList, 2, rfl, by omega, by rw [Lib.extract_data]; simp; omega, Below.refl _ _⟩
      · rw [h1, t1, hsame] at hc3
        have HC3 := Lib.hid hc3
        have hx1 : (1 : Int) ≤ (r.size : Int) := by omega
        clear hc3 h1 t1 hsame
        go_enter Tryz.func81, Tryz.ntmps81
        go_wp2_with (first | (go_at_call 79; first | ((with_reducible refine (HC1.out _).mono ?_); rintro e w1 ⟨rfl, rfl⟩) | ((with_reducible refine (HC2.out _).mono ?_); rintro e w1 ⟨rfl, rfl⟩) | ((with_reducible refine (HC3.out _).mono ?_); rintro e w1 ⟨rfl, rfl⟩)))
        go_ret2
        exact ⟨(r.extract 0 1).data.toList, 1, rfl, by omega, by rw [Lib.extract_data]; simp; omega, Below.refl _ _⟩
end Go.Proofs.YtcigklninmddaaaGreatDoor
