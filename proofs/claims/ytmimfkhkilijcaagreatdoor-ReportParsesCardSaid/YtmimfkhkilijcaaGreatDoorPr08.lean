/- Cut; KFrame; KFRef; KLogR: what is reached of them. -/
import Derived.Deep.LoopGhost
import Derived.Deep.OwnRows
import Derived.Laws.Concat
import Derived.Laws.Slices
import Derived.Laws.Strings2
import Derived.Laws.Strings3
import Derived.Lib.Strings
import Derived.Test.YtmimfkhkilijcaaGreatDoorPr01
import Derived.Test.YtmimfkhkilijcaaGreatDoorPr05
import Derived.Test.YtmimfkhkilijcaaGreatDoorPr06
import Derived.Test.YtmimfkhkilijcaaGreatDoorPr07
namespace Go.Proofs.YtmimfkhkilijcaaGreatDoor
set_option maxRecDepth 4000
open Go.ChangeShapes Go.WideShapes Go.ChangeAt Go.RowKit
set_option linter.unusedVariables false

theorem ext_list (s : ByteArray) (i j : Nat) : s.extract i j = bstr ((s.data.toList.drop i).take (j - i)) := by
  apply ByteArray.ext
  apply Array.ext'
  rw [Lib.extract_data]

/-- A part of a text. -/
theorem cut_run {P : Program} (w : World) (t : TypeId) (s : ByteArray) (i j : Nat) (zi zj : Int) (hi : zi = i) (hj : zj = j) (ht : P.underlying t = some .string) (h1 : i ≤ j) (h2 : j ≤ s.size) :
    (Instr.slice t (.string s) (some (.int .i64 zi)) (some (.int .i64 zj)) none).run P w = .ok (.string (bstr ((s.data.toList.drop i).take (j - i)))) w := by
  subst hi hj
  rw [run_slice_string w t s .i64 .i64 i j ht (by omega) (by omega) (by omega), ← ext_list]
  rfl
/-- From a place on. -/
theorem from_run {P : Program} (w : World) (t : TypeId) (s : ByteArray) (i : Nat) (zi : Int) (hi : zi = i) (ht : P.underlying t = some .string) (h2 : i ≤ s.size) :
    (Instr.slice t (.string s) (some (.int .i64 zi)) none none).run P w = .ok (.string (bstr (s.data.toList.drop i))) w := by
  subst hi
  have e : bstr (s.data.toList.drop i) = s.extract i s.size := by
    rw [ext_list, List.take_of_length_le (by simp)]
  rw [run_slice_string_from_if w t s .i64 i ht, if_pos (by omega), e]
  rfl
/-- Two texts, one behind the other. -/
theorem cat_run {P : Program} (w : World) (a b c : ByteArray) (h : a.size + b.size ≤ 9223372036854775807) (hc : a ++ b = c) : (Op.stringOp .add a b).run P w = .ok (.string c) w := by
  subst hc
  exact run_string_add_sum w a b h
end Go.Proofs.YtmimfkhkilijcaaGreatDoor
namespace Go.Proofs.YtmimfkhkilijcaaGreatDoor
set_option maxRecDepth 4000
open Go.ChangeShapes Go.WideShapes Go.ChangeAt Go.RowKit
open PVar PCrc PFrame
set_option linter.unusedVariables false

theorem fr_kind (k : Int) (w : World) (b : Bool) (hb : b = decide (k = 1 ∨ k = 2)) : Calls Tryz.prog 247 #[.int .i64 k] w fun e w' => e = .returned (.bool b) ∧ w = w' := by
  have HB := Lib.hid hb
  clear hb
  by_cases h1 : k = 1
  · subst h1
    go_enter Tryz.func247, Tryz.ntmps247
    go_wp2
    go_ret
    exact ⟨ret_bool (by rw [HB.out]; decide), rfl⟩
  · go_enter Tryz.func247, Tryz.ntmps247
    go_wp2
    go_ret
    refine ⟨ret_bool ?_, rfl⟩
    rw [HB.out, Bool.eq_iff_iff]
    simp [h1]

abbrev rec (k t : Int) (s : ByteArray) : Value := .agg #[.int .i64 k, .int .i64 t, .string s]
theorem Sl.on {B : Nat} {w w' : World} {size : Nat} {v : Value} {n : Nat} {xs : List Value} (h : Sl B w size v n xs) (hb : Below w.heap.size w w') : Sl B w' size v n xs :=
  h.upd (S := fun k => w.heap.size ≤ k) (Upd.of_below hb (fun _ _ h => h)) (fun k hk => by have := (h.lt k hk).2; omega)

end Go.Proofs.YtmimfkhkilijcaaGreatDoor

/- Contracts of frame's calls: records read. -/
namespace Go.Proofs.YtmimfkhkilijcaaGreatDoor
set_option maxRecDepth 4000
open Go.ChangeShapes Go.WideShapes Go.ChangeAt Go.RowKit
open PVar PCrc PFrame
set_option linter.unusedVariables false

set_option maxRecDepth 100000 in
set_option maxHeartbeats 1000000 in
theorem fr_first (s : ByteArray) (w : World) (hs : s.size ≤ 140737488355328) :
    Calls Tryz.prog 207 #[.string s] w fun e w' => e = .returned (.tuple #[.string (bstr (ffirst s.data.toList).1), .int .i64 (ffirst s.data.toList).2.1, .int .i64 (ffirst s.data.toList).2.2]) ∧ w = w' := by
  have hg := var_get s w (by unfold maxLen; omega)
  have hsl : s.data.toList.length = s.size := by simp
  by_cases h1 : (get s.data.toList).2.2 ≠ 0
  · have e : ffirst s.data.toList = ([], 0, (get s.data.toList).2.2) := by unfold ffirst; rw [if_pos h1]
    have h0 : get s.data.toList = (0, 0, (get s.data.toList).2.2) := by
      rcases get_err s.data.toList with h | h | h
      · exact absurd h h1
      all_goals rw [h]
    rw [e]
    rw [h0] at hg
    generalize (get s.data.toList).2.2 = er at *
    have HG := Lib.hid hg
    have h1' : ((er : Int) == 0) = false := by simpa using h1
    clear hg h0 e
    go_enter Tryz.func207, Tryz.ntmps207
    go_wp2_with (first | (go_at_call 244; refine HG.out.mono ?_; rintro e w1 ⟨rfl, rfl⟩))
    go_ret3
    exact ⟨rfl, rfl⟩
  have e1 : (get s.data.toList).2.2 = 0 := Decidable.not_not.1 h1
  obtain ⟨s1, _, s3, s4⟩ := @get_spec s.data.toList (get s.data.toList).1 (get s.data.toList).2.1 (by rw [← e1])
  have hdl := digs_len s4
  rw [← s1] at hdl
  rw [e1] at hg
  have HF := Lib.hid (show ffirst s.data.toList = _ from rfl)
  clear HF
  unfold ffirst
  rw [if_neg h1]
  clear h1 e1 s1
  generalize (get s.data.toList).1 = k at *
  generalize (get s.data.toList).2.1 = n at *
  rw [hsl] at s3 ⊢
  have HG := Lib.hid hg
  clear hg
  by_cases h2 : k < 2 ∨ 65536 < k
  · rw [if_pos h2]
    go_enter Tryz.func207, Tryz.ntmps207
    go_wp2_with (first | (go_at_call 244; refine HG.out.mono ?_; rintro e w1 ⟨rfl, rfl⟩))
    all_goals
      go_ret3
      exact ⟨rfl, rfl⟩
  rw [if_neg h2]
  by_cases h3 : s.size < n + k + 4
  · rw [if_pos h3]
    go_enter Tryz.func207, Tryz.ntmps207
    go_wp2_with (first | (go_at_call 244; refine HG.out.mono ?_; rintro e w1 ⟨rfl, rfl⟩))
    go_ret3
    exact ⟨rfl, rfl⟩
  · rw [if_neg h3]
    have hcut := fun w => cut_run (P := Tryz.prog) w 9 s n (n + k + 4) n (n + k + 4) rfl (by omega) Tryz.underlying9 (by omega) (by omega)
    rw [show n + k + 4 - n = k + 4 by omega] at hcut
    go_enter Tryz.func207, Tryz.ntmps207
    go_wp2_with (first | (go_at_call 244; refine HG.out.mono ?_; rintro e w1 ⟨rfl, rfl⟩))
    go_ret3
    exact ⟨rfl, rfl⟩

/-- A record's value. -/
abbrev frec (r : R) : Value := rec r.1 r.2.1 (bstr r.2.2)

set_option maxRecDepth 100000 in
set_option maxHeartbeats 1000000 in
theorem fr_read (s : ByteArray) (w : World) (hs : s.size ≤ 140737488355328) (h1 : 1 ≤ s.size) :
    Calls Tryz.prog 210 #[.string s] w fun e w' => e = .returned (.tuple #[frec (rget s.data.toList).1, .int .i64 (rget s.data.toList).2]) ∧ Below w.heap.size w w' := by
  have hsl : s.data.toList.length = s.size := by simp
  have hd0 := drop_cons s 0 h1
  rw [List.drop_zero] at hd0
  rw [hd0, rget_cons]
  have hfrom := fun w => from_run (P := Tryz.prog) w 9 s 1 1 rfl Tryz.underlying9 h1
  have hgi := fun w => var_getint (bstr (s.data.toList.drop 1)) w (by show (s.data.toList.drop 1).toArray.size ≤ _; rw [List.size_toArray, List.length_drop]; unfold maxLen; omega)
  have hrl : (s.data.toList.drop (0 + 1)).length = s.size - 1 := by rw [List.length_drop]; omega
  have hdrop : ∀ n, s.data.toList.drop (1 + n) = (s.data.toList.drop 1).drop n := fun n => by rw [List.drop_drop]
  have hk0 := (s[0]).toNat_lt
  generalize hc : (s[0]).toNat = c at *
  have HC : Hid (s[0].toNat = c) := hc
  have hbel : Below w.heap.size w (w.alloc (.cells #[.int .i64 0, .int .i64 0, .string ⟨#[]⟩] 54)) := (Below.refl _ _).alloc (Nat.le_refl _) _
  by_cases hk : c ≠ 1 ∧ c ≠ 2
  · rw [if_pos hk]
    have hkb : decide ((c : Int) = 1 ∨ (c : Int) = 2) = false := by simp; omega
    go_enter Tryz.func210, Tryz.ntmps210
    go_wp2_with (first | (go_at_call 247; refine (fr_kind c _ false hkb.symm).mono ?_; rintro e w1 ⟨rfl, rfl⟩))
    go_returns
    exact ⟨rfl, hbel⟩
  rw [if_neg hk]
  have hkb : decide ((c : Int) = 1 ∨ (c : Int) = 2) = true := by simp; omega
  simp only [Nat.zero_add] at hrl ⊢
  clear hd0
  generalize hT : s.data.toList.drop 1 = tl at *
  have HT := Lib.hid hT
  clear hT
  have hsp := @get_spec tl (get tl).1 (get tl).2.1
  by_cases he : (get tl).2.2 ≠ 0
  · rw [if_pos he]
    have he' : (((get tl).2.2 : Int) == 0) = false := by simpa using he
    generalize get tl = g at *
    have HGI := Lib.hid hgi
    clear hgi hsp hdrop
    go_enter Tryz.func210, Tryz.ntmps210
    go_wp2_with (first | (go_at_call 247; refine (fr_kind c _ true hkb.symm).mono ?_; rintro e w1 ⟨rfl, rfl⟩) | (go_at_call 248; refine (HGI.out _).mono ?_; rintro e w1 ⟨rfl, rfl⟩))
    go_returns
    exact ⟨rfl, hbel⟩
  · rw [if_neg he]
    have he0 : (get tl).2.2 = 0 := Decidable.not_not.1 he
    obtain ⟨s1, s2, s3, s4⟩ := hsp (by rw [← he0])
    rw [he0] at hgi
    clear hsp he he0
    generalize (get tl).2.1 = n at *
    generalize (get tl).1 = m at *
    have hfr2 := fun w => from_run (P := Tryz.prog) w 9 s (1 + n) (1 + n) (by omega) Tryz.underlying9 (by omega)
    rw [hdrop] at hfr2
    have hn : n ≤ s.size := by omega
    have HGI := Lib.hid hgi
    clear hgi s1 s2 hdrop
    go_enter Tryz.func210, Tryz.ntmps210
    go_wp2_with (first | (go_at_call 247; refine (fr_kind c _ true hkb.symm).mono ?_; rintro e w1 ⟨rfl, rfl⟩) | (go_at_call 248; refine (HGI.out _).mono ?_; rintro e w1 ⟨rfl, rfl⟩))
    go_returns
    exact ⟨rfl, (Below.refl _ _).alloc (Nat.le_refl _) _⟩

theorem size_bstr (l : List UInt8) : (bstr l).size = l.length := by simp [ByteArray.size]

set_option maxRecDepth 100000 in
set_option maxHeartbeats 1000000 in
theorem fr_get (s : ByteArray) (w : World) (hs : s.size ≤ 140737488355328) :
    Calls Tryz.prog 157 #[.string s] w fun e w' => e = .returned (.tuple #[frec (fget s.data.toList).1, .int .i64 (fget s.data.toList).2.1, .int .i64 (fget s.data.toList).2.2]) ∧ Below w.heap.size w w' := by
  have hf := fun w => fr_first s w hs
  have hbel : Below w.heap.size w (w.alloc (.cells #[.int .i64 0, .int .i64 0, .string ⟨#[]⟩] 54)) := (Below.refl _ _).alloc (Nat.le_refl _) _
  have hat := At.alloc w [.int .i64 0, .int .i64 0, .string ⟨#[]⟩] 54
  by_cases hb : (ffirst s.data.toList).2.2 ≠ 0
  · obtain ⟨e1, e2⟩ := ffirst_bad hb
    rw [e1] at hf
    rw [e2]
    generalize (ffirst s.data.toList).2.2 = er at *
    have he' : ((er : Int) == 0) = false := by simpa using hb
    have HF := Lib.hid hf
    clear hf e1 e2
    go_enter Tryz.func157, Tryz.ntmps157
    go_wp2_with (first | (go_at_call 207; refine (HF.out _).mono ?_; rintro e w1 ⟨rfl, rfl⟩))
    go_returns
    exact ⟨rfl, hbel⟩
  obtain ⟨n, k, g1, g2, g3, g4, g5, g6, g7⟩ := ffirst_ok (Decidable.not_not.1 hb)
  rw [g6] at hf
  rw [g7]
  have hlen : ((s.data.toList.drop n).take (k + 4)).length = k + 4 := by
    rw [List.length_take, List.length_drop]; omega
  generalize (s.data.toList.drop n).take (k + 4) = S at *
  have hopen := fun (g : Nat) (w : World) (h : Tab w g) => crc_open g (bstr S) w h (by rw [size_bstr]; omega)
  have HF := Lib.hid hf
  clear hf hb g1 g6 g7
  by_cases ho : opn S = true
  · have hol : (opened S).length = k := by unfold opened; rw [if_pos ho, List.length_take]; omega
    have hread := fun w => fr_read (bstr (opened S)) w (by rw [size_bstr]; omega) (by rw [size_bstr]; omega)
    rw [show (bstr S).data.toList = S from rfl, ho] at hopen
    rw [show (bstr (opened S)).data.toList = opened S from rfl] at hread
    rw [if_neg (by rw [ho]; decide)]
    generalize opened S = O at *
    have HO := Lib.hid hopen
    by_cases hr : (rget O).2 ≠ 0
    · have he' : (((rget O).2 : Int) == 0) = false := by simpa using hr
      rw [if_pos hr]
      generalize rget O = r at *
      have HR := Lib.hid hread
      clear hopen hread ho hol
      go_enter Tryz.func157, Tryz.ntmps157
      go_wp2_with (first | (go_at_call 207; refine (HF.out _).mono ?_; rintro e w1 ⟨rfl, rfl⟩) | (go_at_call 208; refine (crc_new _).mono ?_; rintro e w2 ⟨g, rfl, hg, ht2, b2⟩) | (go_at_call 209; refine (HO.out g _ ht2).mono ?_; rintro e w3 ⟨rfl, b3⟩) | (go_at_call 210; refine (HR.out _).mono ?_; rintro e w4 ⟨rfl, b4⟩; have hb4 := on_below (on_below (on_below hbel b2) b3) b4; obtain ⟨hl4, q0, f0, q1, f1, q2, f2⟩ := (((hat.on b2).on b3).on b4).three; obtain ⟨p0, p1, p2⟩ := (((hat.on b2).on b3).on b4).put3))
      refine bodyPost_ret (v := .tuple #[frec zr, .int .i64 0, .int .i64 r.2]) (by simp [results, Tryz.results157, go_sem, p0, p1, p2, hl4, zr]) rfl ⟨rfl, (((hb4.setCell (Nat.le_refl _) _).setCell (Nat.le_refl _) _).setCell (Nat.le_refl _) _).alloc (by simp; omega) _⟩
    · have he' : (((rget O).2 : Int) == 0) = true := by simpa using hr
      rw [if_neg hr]
      generalize rget O = r at *
      have HR := Lib.hid hread
      clear hopen hread ho hol
      go_enter Tryz.func157, Tryz.ntmps157
      go_wp2_with (first | (go_at_call 207; refine (HF.out _).mono ?_; rintro e w1 ⟨rfl, rfl⟩) | (go_at_call 208; refine (crc_new _).mono ?_; rintro e w2 ⟨g, rfl, hg, ht2, b2⟩) | (go_at_call 209; refine (HO.out g _ ht2).mono ?_; rintro e w3 ⟨rfl, b3⟩) | (go_at_call 210; refine (HR.out _).mono ?_; rintro e w4 ⟨rfl, b4⟩; have hb4 := on_below (on_below (on_below hbel b2) b3) b4; obtain ⟨hl4, q0, f0, q1, f1, q2, f2⟩ := (((hat.on b2).on b3).on b4).three; obtain ⟨p0, p1, p2⟩ := (((hat.on b2).on b3).on b4).put3))
      refine bodyPost_ret (v := .tuple #[frec r.1, .int .i64 (n + k + 4 : Nat), .int .i64 0]) (by simp [results, Tryz.results157, go_sem, p0, p1, p2, hl4]) rfl ⟨rfl, (((hb4.setCell (Nat.le_refl _) _).setCell (Nat.le_refl _) _).setCell (Nat.le_refl _) _).alloc (by simp; omega) _⟩
  · have ho' : opn S = false := by simpa using ho
    rw [if_pos ho']
    rw [show (bstr S).data.toList = S from rfl, ho'] at hopen
    have HO := Lib.hid hopen
    clear hopen
    go_enter Tryz.func157, Tryz.ntmps157
    go_wp2_with (first | (go_at_call 207; refine (HF.out _).mono ?_; rintro e w1 ⟨rfl, rfl⟩) | (go_at_call 208; refine (crc_new _).mono ?_; rintro e w2 ⟨g, rfl, hg, ht2, b2⟩) | (go_at_call 209; refine (HO.out g _ ht2).mono ?_; rintro e w3 ⟨rfl, b3⟩; have hb3 := on_below (on_below hbel b2) b3; obtain ⟨hl3, q0, f0, q1, f1, q2, f2⟩ := ((hat.on b2).on b3).three; obtain ⟨p0, p1, p2⟩ := ((hat.on b2).on b3).put3))
    refine bodyPost_ret (v := .tuple #[frec zr, .int .i64 0, .int .i64 5]) (by simp [results, Tryz.results157, go_sem, p0, p1, p2, zr]) rfl ⟨rfl, ((hb3.setCell (Nat.le_refl _) _).setCell (Nat.le_refl _) _).setCell (Nat.le_refl _) _⟩
end Go.Proofs.YtmimfkhkilijcaaGreatDoor
namespace Go.Proofs.YtmimfkhkilijcaaGreatDoor
set_option maxRecDepth 4000
open Go.ChangeShapes Go.WideShapes Go.ChangeAt Go.RowKit
open PCrc
set_option linter.unusedVariables false

theorem Own.row (w : World) (cs : List Value) (e : TypeId) : Own (w.alloc (.cells cs.toArray e)) w.heap.size 0 cs.length (fun j => cs.getD j undef) := by
  refine ⟨by simp, fun j hj => ?_, fun j hj => ?_⟩
  · rw [cell_of_row _ w.heap.size (0 + j) _ e (0, 0) (heap_alloc_new w _)]
    simp [hj]
  · have e0 := heap_alloc_new w (.cells cs.toArray e (0, 0))
    simp only [World.frozen?, e0]
    simp
end Go.Proofs.YtmimfkhkilijcaaGreatDoor

/- The document's own seal; the laws' first question; sums that are known. -/
namespace Go.Proofs.YtmimfkhkilijcaaGreatDoor
set_option maxRecDepth 4000
open Go.ChangeShapes Go.WideShapes Go.ChangeAt Go.RowKit
open PCrc
set_option linter.unusedVariables false

end Go.Proofs.YtmimfkhkilijcaaGreatDoor

/- The document's own answers on records: written. -/
namespace Go.Proofs.YtmimfkhkilijcaaGreatDoor
set_option maxRecDepth 4000
open Go.ChangeShapes Go.WideShapes Go.ChangeAt Go.RowKit
open PVar PCrc PFrame
set_option linter.unusedVariables false

end Go.Proofs.YtmimfkhkilijcaaGreatDoor

/- The document's own answers on records: which may be, and their bytes. -/
namespace Go.Proofs.YtmimfkhkilijcaaGreatDoor
set_option maxRecDepth 4000
open Go.ChangeShapes Go.WideShapes Go.ChangeAt Go.RowKit
open PVar PCrc PFrame
set_option linter.unusedVariables false

end Go.Proofs.YtmimfkhkilijcaaGreatDoor

/- The document's own answers on records: read. -/
namespace Go.Proofs.YtmimfkhkilijcaaGreatDoor
set_option maxRecDepth 4000
open Go.ChangeShapes Go.WideShapes Go.ChangeAt Go.RowKit
open PVar PCrc PFrame
set_option linter.unusedVariables false
set_option linter.unusedSimpArgs false

end Go.Proofs.YtmimfkhkilijcaaGreatDoor
namespace Go.Proofs.YtmimfkhkilijcaaGreatDoor
set_option maxRecDepth 4000
open Go.ChangeShapes Go.WideShapes Go.ChangeAt Go.RowKit
open PVar PCrc PFrame
set_option linter.unusedVariables false

theorem Sl.cap {B : Nat} {w : World} {size : Nat} {a : Option Addr} {n m c : Nat} {xs : List Value} (h : Sl B w size (.slice a n c) m xs) : n ≤ c ∧ c ≤ maxLen := by
  rcases h.2 with ⟨h1, h2⟩ | ⟨g, off, cap, h1, h2, h3, h4, h5, _⟩
  · cases h1; exact ⟨Nat.le_refl _, Nat.zero_le _⟩
  · cases h1; exact ⟨h4, h5⟩


end Go.Proofs.YtmimfkhkilijcaaGreatDoor

/- The document's own answers on rows of records: read. -/
namespace Go.Proofs.YtmimfkhkilijcaaGreatDoor
set_option maxRecDepth 4000
open Go.ChangeShapes Go.WideShapes Go.ChangeAt Go.RowKit
open PVar PCrc PFrame
set_option linter.unusedVariables false
set_option linter.unusedSimpArgs false

end Go.Proofs.YtmimfkhkilijcaaGreatDoor
