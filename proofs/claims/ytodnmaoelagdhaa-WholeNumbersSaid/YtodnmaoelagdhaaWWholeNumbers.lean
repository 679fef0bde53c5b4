/- The walk of the law WholeNumbers. -/
import Derived.Test.YtodnmaoelagdhaaVar4
import Derived.Test.YtodnmaoelagdhaaSat2
namespace Go.Proofs.Ytodnmaoelagdhaa
open Go.ChangeShapes Go.WideShapes Go.ChangeAt Go.RowKit
open PVar
set_option linter.unusedVariables false

/-- The bytes of all of these. -/
def allDigs (l : List Int) : List UInt8 := l.flatMap fun n => digs (fold n)

theorem allDigs_snoc (l : List Int) (k : Nat) (h : k < l.length) : allDigs (l.take (k + 1)) = allDigs (l.take k) ++ digs (fold l[k]) := by
  unfold allDigs
  rw [List.take_succ_eq_append_getElem h, List.flatMap_append]
  simp
theorem allDigs_cons (l : List Int) (k : Nat) (h : k < l.length) : allDigs (l.drop k) = digs (fold l[k]) ++ allDigs (l.drop (k + 1)) := by
  unfold allDigs
  rw [List.drop_eq_getElem_cons h, List.flatMap_cons]
theorem allDigs_len : ∀ (l : List Int), (∀ n ∈ l, (Lit.int .i64 n).wf = true) → (allDigs l).length ≤ 10 * l.length
  | [], _ => by simp [allDigs]
  | n :: l, h => by
    have hn := bounds_i64 (h n (by simp))
    have h1 := digs_len (fold_le hn.1 hn.2)
    have h2 := allDigs_len l (fun x hx => h x (by simp [hx]))
    have e : allDigs (n :: l) = digs (fold n) ++ allDigs l := by simp [allDigs]
    rw [e, List.length_append]
    simp
    omega

theorem getint_on (f : Nat) (r : List UInt8) (w : World) (hs : (digs f ++ r).length ≤ maxLen) (hf : f ≤ 18446744073709551615) :
    Calls Try.prog 19 #[.string (bstr (digs f ++ r))] w fun e w' => e = .returned (.tuple #[.int .i64 (back f), .int .i64 ((digs f).length : Nat), .int .i64 0]) ∧ w = w' := by
  have h1 := var_getint (bstr (digs f ++ r)) w (by simpa [ByteArray.size] using hs)
  have h2 := get_digs f hf r
  have h3 : (bstr (digs f ++ r)).data.toList = digs f ++ r := rfl
  rw [h3, h2] at h1
  exact h1

theorem bstr_cut (a r : List UInt8) (n : Nat) (hn : n = (a ++ r).length) : (bstr (a ++ r)).extract a.length n = bstr r := by
  apply ByteArray.ext
  apply Array.ext'
  rw [Lib.extract_data]
  show List.take (n - a.length) (List.drop a.length (a ++ r)) = r
  rw [List.drop_left, List.take_of_length_le]
  simp at hn
  omega

set_option maxRecDepth 100000 in
set_option maxHeartbeats 4000000 in
theorem walk_WholeNumbers (w : World) (a0 : Option Addr) (n0 c0 : Nat) (l0 : List Int) (w0 : Rd w (.sl (.int .i64)) [.slice a0 n0 c0] l0) :
    Calls Try.prog 8 #[.slice a0 n0 c0] w fun e w' => e = .returned (.bool true) ∧ Below w.heap.size w w' := by
  obtain ⟨rfl, hl⟩ := w0.ints
  clear w0
  have hp : ∀ e w', PutPost w.heap.size w (.slice none 0 0) 0 (bv []) (PVar.fold (-65)) e w' → ∃ v', e = .returned v' ∧ (convert 40 9 v').run Try.prog w' = .ok (.string ⟨#[129, 1]⟩) w' ∧ Below w.heap.size w w' := by
    intro e w' h
    obtain ⟨v', he, _, kc, hu, _⟩ := put_string h
    rw [show PVar.fold (-65) = 129 from rfl, digs_129] at kc
    exact ⟨v', he, kc, upd_nil hu⟩
  have HP := Lib.hid hp
  clear hp
  have hlw := allDigs_len l0 hl.wf
  obtain ⟨i0, hi, hz0, hz1, hz2⟩ := info_parts info_u8
  by_cases hbig : 200 < l0.length
  · go_enter Try.func8, Try.ntmps8
    go_wp2_with (first | (go_at_call 10; refine (sat_add _ _ _ (by omega) (by omega)).mono ?_; rintro e w' ⟨rfl, rfl⟩) | (go_at_call 22; refine (putint_nil _ _ (by omega)).mono ?_; intro e w1 hpp; obtain ⟨v1, rfl, kc, hb⟩ := HP.out _ _ hpp))
    go_ret
    exact ⟨rfl, hb⟩
  · go_enter Try.func8, Try.ntmps8
    go_wp2_with (first | (go_at_call 10; refine (sat_add _ _ _ (by omega) (by omega)).mono ?_; rintro e w' ⟨rfl, rfl⟩) | (go_at_call 22; refine (putint_nil _ _ (by omega)).mono ?_; intro e w1 hpp; obtain ⟨v1, rfl, kc, hb⟩ := HP.out _ _ hpp))
    have HW := Lib.hid hlw
    clear HP hlw
    go_loopw [3, 25] (fun v i wr => ∃ k : Nat, k ≤ l0.length ∧ i = .int .i64 k ∧ Sl w.heap.size wr 1 v (allDigs (l0.take k)).length (bv (allDigs (l0.take k))) ∧ Below w.heap.size w wr) (fun _ i _ => l0.length - (intOf i).toNat)
    case atStart => exact ⟨0, Nat.zero_le _, rfl, Sl.nil _ _ _, hb⟩
    case round =>
      obtain ⟨k, hk, rfl, hs, hbr⟩ := hrel
      have hlr := hl.below hbr
      by_cases hlt : k < l0.length
      · obtain ⟨b, off, rfl, hbb, hc⟩ := hlr.at_ k hlt
        have HS := Lib.hid (allDigs_snoc l0 k hlt)
        have hb1 := hl.bound k hlt
        have hz : (allDigs (l0.take k)).length ≤ 10 * (l0.take k).length := allDigs_len _ (fun n hn => hl.wf n (List.mem_of_mem_take hn))
        have hz' : (l0.take k).length ≤ k := List.length_take_le _ _
        have hz2 := hbr.size
        go_wp2_with (first | (go_at_call 22; refine (var_putint w.heap.size _ _ _ _ _ hs hb1 (by omega) hz2).mono ?_; intro e w2 hpp; obtain ⟨v2, rfl, k1, -, k2, k3⟩ := put_string hpp))
        go_roundw
        case rel => exact ⟨k + 1, by omega, by go_num, by rw [HS.out, List.length_append]; exact k1, hbr.upd k2 hz2 (fun i _ h => (hs.lt i h).1)⟩
        case measure => simp [intOf]; omega
      · have hkl : k = l0.length := by omega
        subst hkl
        rw [List.take_length] at hs
        have kc := sl_string hs 40 9 5 Try.underlying40 Try.underlying5 Try.underlying9
        clear hlt hk
        go_wp2
        go_loopw [6, 7, 37] (fun s a i wx => ∃ k : Nat, k ≤ l0.length ∧ i = .int .i64 k ∧ s = .string (bstr (allDigs (l0.drop k))) ∧ a = .int .i64 (PSat.sum (l0.take k)) ∧ ∃ n, wx = wr.drewN n) (fun _ _ i _ => l0.length - (intOf i).toNat)
        case atStart => exact ⟨0, Nat.zero_le _, rfl, rfl, rfl, 0, rfl⟩
        case round =>
          obtain ⟨k, hk, rfl, rfl, rfl, nd, rfl⟩ := hrel
          by_cases hlt : k < l0.length
          · obtain ⟨b, off, rfl, hbb, hc⟩ := hlr.at_ k hlt
            have HS := Lib.hid (PSat.sum_take l0 k hlt)
            have hb1 := hl.bound k hlt
            have hb2 := PSat.sum_in (l0.take k)
            unfold PSat.inR at hb2
            have hc1 := allDigs_cons l0 k hlt
            have hfl := fold_le hb1.1 hb1.2
            have hz : (allDigs (l0.drop k)).length ≤ 10 * (l0.drop k).length := allDigs_len _ (fun n hn => hl.wf n (List.mem_of_mem_drop hn))
            have hz' : (l0.drop k).length ≤ l0.length := by simp
            rw [hc1] at hz ⊢
            have hdl := digs_pos (PVar.fold l0[k])
            have hbk := Lib.hid (PVar.back_fold l0[k])
            have hcut := Lib.hid (bstr_cut (PVar.digs (PVar.fold l0[k])) (allDigs (l0.drop (k + 1))) _ rfl)
            have hlen2 : (PVar.digs (PVar.fold l0[k])).length ≤ (PVar.digs (PVar.fold l0[k]) ++ allDigs (l0.drop (k + 1))).length := by simp
            have hsz : (bstr (PVar.digs (PVar.fold l0[k]) ++ allDigs (l0.drop (k + 1)))).size = (PVar.digs (PVar.fold l0[k]) ++ allDigs (l0.drop (k + 1))).length := by simp [ByteArray.size]
            clear hc1
            generalize PVar.fold l0[k] = f at *
            generalize hrest : allDigs (l0.drop (k + 1)) = rest at *
            have HR := Lib.hid hrest
            clear hrest
            go_wp2_with (first | (go_at_call 19; refine (getint_on f rest _ (by unfold maxLen; omega) hfl).mono ?_; rintro e x1 ⟨rfl, rfl⟩; rw [hbk.out]))
            go_region_with (go_at_call 10; refine (sat_add _ _ _ hb2 hb1).mono ?_; rintro e x1 ⟨rfl, rfl⟩)
            go_wp2
            go_roundw
            case rel => exact ⟨k + 1, by omega, by go_num, (by have hc := bstr_cut (PVar.digs f) rest _ rfl; simp only [List.length_append] at hc; rw [hc, HR.out]), by rw [HS.out], _, rfl⟩
            case measure => simp [intOf]; omega
          · have hkl : k = l0.length := by omega
            subst hkl
            clear hlt hk
            rw [List.take_length, List.drop_length]
            go_wp2_with (first | (go_at_call 15; refine (sat_sum _ _ _ l0 _ rfl (hlr.below (below_drewN (Below.refl _ _) _))).mono ?_; rintro e x1 ⟨rfl, rfl⟩))
            go_ret
            exact ⟨ret_true rfl, below_drewN hbr _⟩
end Go.Proofs.Ytodnmaoelagdhaa
