/- Contracts of log's calls: records written one behind the other; their times. -/
import Derived.Test.YtfgmbmpbgokolaaLog
import Derived.Test.YtfgmbmpbgokolaaQBuild
namespace Go.Proofs.Ytfgmbmpbgokolaa
open Go.ChangeShapes Go.WideShapes Go.ChangeAt Go.RowKit
open PVar PCrc PFrame
set_option linter.unusedVariables false
set_option linter.unusedSimpArgs false

theorem bld_on {B b : Nat} {l : List UInt8} {w w' : World} (h : Bld B b l w) (hb : Below w.heap.size w w') : Bld B b l w' := by
  have keep : ∀ k o, w.heap[k]? = some o → w'.heap[k]? = some o := fun k o hk => by rw [hb.block k (Array.getElem?_eq_some_iff.1 hk).1]; exact hk
  have at_ : ∀ p, Lib.BuilderAtF 72 5 B b p (Lib.byteCells l) w → Lib.BuilderAtF 72 5 B b p (Lib.byteCells l) w' := by
    intro p ⟨hB, v, hbk, hown, hne⟩
    refine ⟨hB, v, keep _ _ hbk, ⟨hown.1, ?_⟩, hne⟩
    rcases hown.2 with h0 | ⟨g, cap, cur, fz, h1, h2, h3, h4⟩
    · exact .inl h0
    · exact .inr ⟨g, cap, cur, fz, h1, h2, keep _ _ h3, h4⟩
  exact h.elim (fun x => .inl (at_ _ x)) (fun x => .inr (at_ _ x))

/-- The first error of a row of records. -/
def berr : List R → Nat
  | [] => 0
  | r :: rs => if err r.1 r.2.1 r.2.2 ≠ 0 then err r.1 r.2.1 r.2.2 else berr rs
theorem berr_take : ∀ (rs : List R) (k : Nat) (h : k < rs.length), berr (rs.take k) = 0 → err rs[k].1 rs[k].2.1 rs[k].2.2 ≠ 0 → berr rs = err rs[k].1 rs[k].2.1 rs[k].2.2
  | r :: rs, 0, _, _, h2 => by
    have h2' : err r.1 r.2.1 r.2.2 ≠ 0 := h2
    show (if err r.1 r.2.1 r.2.2 ≠ 0 then err r.1 r.2.1 r.2.2 else berr rs) = err r.1 r.2.1 r.2.2
    rw [if_pos h2']
  | r :: rs, k + 1, h, h1, h2 => by
    rw [List.take_succ_cons] at h1
    unfold berr at h1 ⊢
    by_cases h3 : err r.1 r.2.1 r.2.2 ≠ 0
    · rw [if_pos h3] at h1
      exact absurd h1 h3
    · rw [if_neg h3] at h1 ⊢
      exact berr_take rs k (by simpa using h) h1 h2
theorem berr_snoc : ∀ (rs : List R) (k : Nat) (h : k < rs.length), berr (rs.take k) = 0 → err rs[k].1 rs[k].2.1 rs[k].2.2 = 0 → berr (rs.take (k + 1)) = 0
  | r :: rs, 0, _, _, h2 => by
    show (if err r.1 r.2.1 r.2.2 ≠ 0 then err r.1 r.2.1 r.2.2 else 0) = 0
    have h2' : err r.1 r.2.1 r.2.2 = 0 := h2
    rw [if_neg (by omega)]
  | r :: rs, k + 1, h, h1, h2 => by
    rw [List.take_succ_cons] at h1 ⊢
    unfold berr at h1 ⊢
    by_cases h3 : err r.1 r.2.1 r.2.2 ≠ 0
    · rw [if_pos h3] at h1
      exact absurd h1 h3
    · rw [if_neg h3] at h1 ⊢
      exact berr_snoc rs k (by simpa using h) h1 h2
theorem berr_ok : ∀ (rs : List R), berr rs = 0 → ∀ r ∈ rs, err r.1 r.2.1 r.2.2 = 0
  | r :: rs, h, x, hx => by
    unfold berr at h
    by_cases h3 : err r.1 r.2.1 r.2.2 ≠ 0
    · rw [if_pos h3] at h
      exact absurd h h3
    · rw [if_neg h3] at h
      rcases List.mem_cons.1 hx with rfl | hx
      · exact Decidable.not_not.1 h3
      · exact berr_ok rs h x hx
theorem build_snoc (rs : List R) (k : Nat) (h : k < rs.length) : build (rs.take (k + 1)) = build (rs.take k) ++ encR rs[k] := by
  rw [List.take_succ_eq_append_getElem h, build_append]
  show _ ++ (_ ++ []) = _
  rw [List.append_nil]

set_option maxRecDepth 100000 in
set_option maxHeartbeats 2000000 in
theorem log_build (a : Option Addr) (n c : Nat) (rs : List R) (w : World) (hr : RowR w a rs) (hn : rs.length = n) (ht : ∀ r ∈ rs, r.2.2.length ≤ 4000) (hnb : n ≤ 4000) :
    Calls Try.prog 19 #[.slice a n c] w fun e w' => e = .returned (.tuple #[.string (bstr (if berr rs = 0 then build rs else [])), .int .i64 (berr rs : Nat)]) ∧ Below w.heap.size w w' := by
  have HN := Lib.hid hn
  clear hn
  have hbel : Below w.heap.size w (w.alloc (.cells #[.pointer none, .slice none 0 0] 72)) := (Below.refl _ _).alloc (Nat.le_refl _) _
  have hbld := b_zero w
  go_enter Try.func19, Try.ntmps19
  go_wp2
  go_loopw [11] (fun i wr => ∃ k : Nat, k ≤ n ∧ i = .int .i64 k ∧ Bld w.heap.size w.heap.size (build (rs.take k)) wr ∧ (build (rs.take k)).length ≤ k * 5000 ∧ Below w.heap.size w wr ∧ Hid (berr (rs.take k) = 0)) (fun i _ => n - (intOf i).toNat)
  case atStart => exact ⟨0, Nat.zero_le _, rfl, hbld, by simp [build], hbel, rfl⟩
  case round =>
    obtain ⟨k, hk, rfl, hb, hbs, hbw, HB⟩ := hrel
    have hrow := hr.on hbw
    by_cases hlt : k < n
    · have hk1 : k < rs.length := by rw [HN.out]; exact hlt
      obtain ⟨b1, o1, rfl, hb1, p0, p1, p2⟩ := hrow.at_ k hk1
      have htm := (hr.tm rs[k] (List.getElem_mem hk1)).2
      have htx := ht rs[k] (List.getElem_mem hk1)
      have HT1 := Lib.hid (berr_take rs k hk1 HB.out)
      have HT2 := Lib.hid (berr_snoc rs k hk1 HB.out)
      have HS := Lib.hid (build_snoc rs k hk1)
      generalize rs[k] = r at *
      obtain ⟨k1, t1, x1⟩ := r
      simp only at p0 p1 p2 htm htx
      have hen := fun w => fr_encode k1 t1 (bstr x1) w htm (by rw [size_bstr]; omega)
      rw [show (bstr x1).data.toList = x1 from rfl] at hen
      have HE := Lib.hid hen
      clear hen hk1
      by_cases he : err k1 t1 x1 = 0
      · have hes : encS k1 t1 x1 = enc k1 t1 x1 := by unfold encS; rw [if_pos he]
        have hel := enc_len k1 t1 x1
        have hbl := body_len k1 t1 x1
        have hdl := digs_len (fold_le htm.1 htm.2)
        have hdl2 := digs_len (n := (body k1 t1 x1).length) (by omega)
        rw [he, hes] at HE
        have hs' : build (rs.take (k + 1)) = build (rs.take k) ++ enc k1 t1 x1 := HS.out
        have HS' := Lib.hid hs'
        have hl' : (build (rs.take (k + 1))).length ≤ (k + 1) * 5000 := by rw [hs', List.length_append]; omega
        have HL' := Lib.hid hl'
        have hEl : (bstr (enc k1 t1 x1)).size ≤ 4999 := by rw [size_bstr]; omega
        have hw := fun w' (h : Bld w.heap.size w.heap.size (build (rs.take k)) w') (hB : w.heap.size ≤ w'.heap.size) => b_write w.heap.size w.heap.size (build (rs.take k)) (bstr (enc k1 t1 x1)) w' h (by omega) hB
        have HW := Lib.hid hw
        have HB2 := Lib.hid (HT2.out he)
        clear hes hel hbl hdl hdl2 hs' hl' hw
        generalize enc k1 t1 x1 = E at *
        go_wp2_with (first | (go_at_call 10; refine (HE.out _).mono ?_; rintro e w2 ⟨rfl, b2⟩; have hb2 := on_below (hbw.alloc hbw.size _) b2; have hbd2 := bld_on (bld_on hb ((Below.refl _ wr).alloc (Nat.le_refl _) _)) b2) | (go_at_call 35; refine (HW.out _ hbd2 hb2.size).mono ?_; rintro e w3 ⟨rfl, hon⟩))
        refine ⟨⟨k + 1, by omega, by go_num, ?_, HL'.out, hb2.trans hon.2.1, HB2.out⟩, by simp [intOf]; omega⟩
        rw [HS'.out]
        exact hon.1
      · have he' : ((err k1 t1 x1 : Int) == 0) = false := by simpa using he
        have hz : berr rs = err k1 t1 x1 := HT1.out he
        generalize err k1 t1 x1 = er at *
        go_wp2_with (first | (go_at_call 10; refine (HE.out _).mono ?_; rintro e w2 ⟨rfl, b2⟩; have hb2 := on_below (hbw.alloc hbw.size _) b2))
        go_ret2
        exact ⟨rfl, hb2⟩
    · obtain rfl : k = n := by omega
      have hall : rs.take k = rs := List.take_of_length_le (by rw [HN.out]; exact Nat.le_refl _)
      have hz : berr rs = 0 := by have := HB.out; rwa [hall] at this
      rw [hall] at hb hbs
      have HT := Lib.hid (b_text w.heap.size w.heap.size (build rs) wr hb hbw.size)
      clear hall
      go_wp2_with (first | (go_at_call 36; refine HT.out.mono ?_; rintro e w2 ⟨rfl, b2⟩))
      go_ret2
      exact ⟨rfl, hbw.trans b2⟩
end Go.Proofs.Ytfgmbmpbgokolaa
