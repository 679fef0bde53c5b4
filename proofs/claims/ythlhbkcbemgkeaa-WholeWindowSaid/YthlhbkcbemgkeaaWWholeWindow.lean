/- The walk of the law WholeWindow. -/
import Derived.Test.YthlhbkcbemgkeaaSortRow
namespace Go.Proofs.Ythlhbkcbemgkeaa
open Go.ChangeShapes Go.WideShapes Go.ChangeAt Go.RowKit
open PHist PRing
set_option linter.unusedVariables false
set_option linter.unusedSimpArgs false

/-- Numbers and a ring, apart. -/
def Win (w0 wr : World) (gh gr r : Nat) (la lb : List Int) : Prop := ∃ Fa Fb, HistL wr Fa gh la ∧ Ring wr Fb gr r (iv lb) ∧ (∀ k, Fa k → ¬ Fb k) ∧ (∀ k, Fa k → w0.heap.size ≤ k) ∧ (∀ k, Fb k → w0.heap.size ≤ k) ∧ Below w0.heap.size w0 wr
theorem Win.bel {w0 wr : World} {gh gr r : Nat} {la lb : List Int} (h : Win w0 wr gh gr r la lb) : Below w0.heap.size w0 wr := by
  obtain ⟨_, _, _, _, _, _, _, h⟩ := h
  exact h
theorem Win.below {w0 wr w' : World} {gh gr r : Nat} {la lb : List Int} (h : Win w0 wr gh gr r la lb) (hb : Below wr.heap.size wr w') : Win w0 w' gh gr r la lb := by
  obtain ⟨Fa, Fb, h1, h2, h3, h4, h5, h6⟩ := h
  exact ⟨Fa, Fb, h1.below hb, h2.below hb, h3, h4, h5, h6.trans (hb.mono h6.size)⟩
theorem Win.start (w w2 : World) (r : Nat) (hr : RNew (w.heap.size + 1) r (w.alloc (.cells #[.slice none 0 0, .int .i64 0] 42)) w2) : Win w w2 w.heap.size (w.heap.size + 1) r [] [] := by
  obtain ⟨h1, h2⟩ := hr
  have e : (w.alloc (.cells #[.slice none 0 0, .int .i64 0] 42)).heap.size = w.heap.size + 1 := by simp
  have b0 : Below w.heap.size w (w.alloc (.cells #[.slice none 0 0, .int .i64 0] 42)) := ((Upd.refl (fun _ => False) w).alloc _).below (Nat.le_refl _) (fun _ _ h => h.elim)
  exact ⟨_, _, (HistL.zero w 42).below h2, h1, fun k hk hk' => by omega, fun k hk => by omega, fun k hk => by omega, b0.trans (h2.mono (by omega))⟩
theorem Win.add {w0 wr : World} {gh gr r : Nat} {la lb : List Int} (h : Win w0 wr gh gr r la lb) (hl : la.length ≤ 900) (n : Int) : Calls Try.prog 23 #[.pointer (some ⟨gh, 0, none⟩), .int .i64 n] wr fun e w' => e = .returned (.tuple #[]) ∧ Win w0 w' gh gr r (n :: la) lb := by
  obtain ⟨Fa, Fb, h1, h2, h3, h4, h5, h6⟩ := h
  refine (hl_add Fa gh la n wr h1 hl).mono ?_
  rintro e w' ⟨he, F', k1, k2, k3⟩
  have hs := h6.size
  exact ⟨he, F', Fb, k1, h2.upd k2 (fun k hk hk' => h3 k hk' hk), fun k hk hk' => (k3 k hk).elim (fun h => h3 k h hk') (fun h => by have := h2.lt k hk'; omega), fun k hk => (k3 k hk).elim (h4 k) (fun h => by omega), h5, h6.upd k2 hs (fun i _ hi => h4 i hi)⟩
theorem Win.rem {w0 wr : World} {gh gr r : Nat} {la la' lb : List Int} (h : Win w0 wr gh gr r la lb) (hl : la.length ≤ 900) (n : Int) (hp : (n :: la').Perm la) : Calls Try.prog 22 #[.pointer (some ⟨gh, 0, none⟩), .int .i64 n] wr fun e w' => e = .returned (.bool true) ∧ Win w0 w' gh gr r la' lb := by
  obtain ⟨Fa, Fb, h1, h2, h3, h4, h5, h6⟩ := h
  refine (hl_rem Fa gh la la' n wr h1 hl hp).mono ?_
  rintro e w' ⟨he, F', k1, k2, k3⟩
  have hs := h6.size
  exact ⟨he, F', Fb, k1, h2.upd k2 (fun k hk hk' => h3 k hk' hk), fun k hk hk' => (k3 k hk).elim (fun h => h3 k h hk') (fun h => by have := h2.lt k hk'; omega), fun k hk => (k3 k hk).elim (h4 k) (fun h => by omega), h5, h6.upd k2 hs (fun i _ hi => h4 i hi)⟩
theorem Win.push {w0 wr : World} {gh gr r : Nat} {la lb : List Int} (h : Win w0 wr gh gr r la lb) (x gone : Int) (is : Bool) (h2 : r ≤ 1000) (hg : (lb.length < r ∧ gone = 0 ∧ is = false) ∨ (r ≤ lb.length ∧ lb[0]? = some gone ∧ is = true)) :
    Calls Try.prog 10 #[.pointer (some ⟨gr, 0, none⟩), .int .i64 x] wr fun z w' => z = .returned (.tuple #[.int .i64 gone, .bool is]) ∧ Win w0 w' gh gr r la (PRing.push r lb x) := by
  obtain ⟨Fa, Fb, h1, h2', h3, h4, h5, h6⟩ := h
  refine (ri_push Fb gr r lb x gone is wr h2' h2 hg).mono ?_
  rintro e w' ⟨he, F', k1, k2, k3⟩
  have hs := h6.size
  exact ⟨he, Fa, F', h1.upd k2 (fun k hk hk' => h3 k hk hk'), k1, fun k hk hk' => (k3 k hk').elim (fun h => h3 k hk h) (fun h => by have := h1.lt k hk; omega), h4, fun k hk => (k3 k hk).elim (h5 k) (fun h => by omega), h6.upd k2 hs (fun i _ hi => h5 i hi)⟩
theorem Win.perm {w0 wr : World} {gh gr r : Nat} {la la' lb : List Int} (h : Win w0 wr gh gr r la lb) (p : la.Perm la') : Win w0 wr gh gr r la' lb := by
  obtain ⟨Fa, Fb, h1, h2⟩ := h
  exact ⟨Fa, Fb, h1.perm p, h2⟩
theorem Win.rlen {w0 wr : World} {gh gr r : Nat} {la lb : List Int} (h : Win w0 wr gh gr r la lb) : Calls Try.prog 11 #[.pointer (some ⟨gr, 0, none⟩)] wr fun z w' => z = .returned (.int .i64 lb.length) ∧ wr = w' := by
  obtain ⟨Fa, Fb, h1, h2, _⟩ := h
  have := ri_len Fb gr r (iv lb) wr h2
  rwa [iv_len] at this
theorem Win.hlen {w0 wr : World} {gh gr r : Nat} {la lb : List Int} (h : Win w0 wr gh gr r la lb) (m : Nat) (hm : la.length = m) : Calls Try.prog 24 #[.pointer (some ⟨gh, 0, none⟩)] wr fun z w' => z = .returned (.int .i64 m) ∧ wr = w' := by
  subst hm
  obtain ⟨Fa, Fb, h1, h2, _⟩ := h
  exact hl_len Fa gh la wr h1
theorem Win.all {w0 wr : World} {gh gr r : Nat} {la lb : List Int} (h : Win w0 wr gh gr r la lb) (h2 : r ≤ 1000) (h0 : 0 < lb.length) (hb : ∀ x ∈ lb, -9223372036854775808 ≤ x ∧ x ≤ 9223372036854775807) (m : Nat) (hm : lb.length = m) : Calls Try.prog 14 #[.pointer (some ⟨gr, 0, none⟩)] wr fun z w' => ∃ a c, z = .returned (.slice a m c) ∧ Win w0 w' gh gr r la lb ∧
    Calls Try.prog 29 #[.slice a m c] w' fun e w2 => e = .returned (.tuple #[]) ∧ RowI w2 .i64 a (srt lb) ∧ Win w0 w2 gh gr r la lb := by
  subst hm
  have hw := h
  obtain ⟨Fa, Fb, h1, hr, _⟩ := h
  have hle := hr.len
  rw [iv_len] at hle
  refine (ri_all Fb gr r (iv lb) wr hr (iv_one lb) h2).mono ?_
  rintro e w' ⟨v, rfl, hs, hbl⟩
  rw [iv_len] at hs
  obtain ⟨a, c, rfl, hsort⟩ := sort_row w' v lb hs h0 (by omega) hb
  refine ⟨a, c, rfl, hw.below hbl, hsort.mono ?_⟩
  rintro e w2 ⟨he, hrow, hb2⟩
  exact ⟨he, hrow, hw.below (hbl.trans hb2)⟩
theorem Win.rank {w0 wr : World} {gh gr r : Nat} {la lb : List Int} (h : Win w0 wr gh gr r la lb) (k : Nat) (kz z : Int) (hkz : kz = k) (hk : 1 ≤ k) (hk2 : k ≤ 1000) (ho : (srt la)[k - 1]? = some z) : Calls Try.prog 25 #[.pointer (some ⟨gh, 0, none⟩), .int .i64 kz] wr fun e w' => e = .returned (.tuple #[.int .i64 z, .bool true]) ∧ Win w0 w' gh gr r la lb ∧ Below wr.heap.size wr w' := by
  have hw := h
  obtain ⟨Fa, Fb, h1, _⟩ := h
  refine (hl_rank Fa gh la k kz hkz (some z) z true wr h1 hk (by omega) ho rfl rfl).mono ?_
  rintro e w' ⟨he, hb⟩
  exact ⟨he, hw.below hb, hb⟩
theorem Win.percent {w0 wr : World} {gh gr r : Nat} {la lb : List Int} (h : Win w0 wr gh gr r la lb) (p : Nat) (pz z : Int) (hpz : pz = p) (hp : p ≤ 100) (hl : la.length ≤ 900) (ho : (srt la)[prank la.length p - 1]? = some z) : Calls Try.prog 27 #[.pointer (some ⟨gh, 0, none⟩), .int .i64 pz] wr fun e w' => e = .returned (.tuple #[.int .i64 z, .bool true]) ∧ Win w0 w' gh gr r la lb ∧ Below wr.heap.size wr w' := by
  have hw := h
  obtain ⟨Fa, Fb, h1, _⟩ := h
  refine (hl_percent Fa gh la p pz hpz (some z) z true wr h1 hl hp ho rfl rfl).mono ?_
  rintro e w' ⟨he, hb⟩
  exact ⟨he, hw.below hb, hb⟩

theorem RowI.get {k : IntKind} {w : World} {b off : Nat} {l : List Int} (h : RowI w k (some ⟨b, off, none⟩) l) (i : Nat) (z : Int) (hz : l[i]? = some z) : w.cell? ⟨b, off + i, none⟩ = some (.int k z) := by
  obtain ⟨hi, rfl⟩ := List.getElem?_eq_some_iff.1 hz
  exact (h.cell i hi).2

set_option maxRecDepth 100000 in
set_option maxHeartbeats 4000000 in
theorem walk_WholeWindow (w : World) (a0 : Int) (w0 : (Lit.int .u8 a0).wf = true) (a1 : Option Addr) (n1 c1 : Nat) (l1 : List Int) (w1 : Rd w (.sl (.int .i64)) [.slice a1 n1 c1] l1) :
    Calls Try.prog 7 #[.int .u8 a0, .slice a1 n1 c1] w fun e w' => e = .returned (.bool true) ∧ Below w.heap.size w w' := by
  obtain ⟨rfl, hl⟩ := w1.ints
  have hu : 0 ≤ a0 ∧ a0 ≤ 255 := by simpa [Lit.wf, IntKind.min, IntKind.max, IntKind.bits, IntKind.signed] using w0
  clear w0 w1
  obtain ⟨u1, u2⟩ := hu
  obtain ⟨r, hr⟩ : ∃ r : Nat, 1 + a0 % 30 = (r : Int) := ⟨(1 + a0 % 30).toNat, by omega⟩
  have hr1 : 1 ≤ r := by omega
  have hr2 : r ≤ 30 := by omega
  have hm0 : 0 ≤ a0 % 30 := by omega
  have hm1 : a0 % 30 ≤ 30 := by omega
  have hbd := fun x (hx : x ∈ l1) => bounds_i64 (hl.wf x hx)
  have hg1 : (w.alloc (.cells #[.slice none 0 0, .int .i64 0] 42)).heap.size = w.heap.size + 1 := by simp
  have HN := Lib.hid (ri_new (r : Int) r (by omega) (by omega) (w.alloc (.cells #[.slice none 0 0, .int .i64 0] 42)))
  rw [hg1] at HN
  clear hg1
  have h3 : (3 :: ([] : List Int)).Perm [3] := List.Perm.refl _
  by_cases hbig : 100 < l1.length
  · go_enter Try.func7, Try.ntmps7
    go_wp2_with (go_at_call 9; refine HN.out.mono ?_; rintro e w2 ⟨rfl, hr0⟩; have ht2 := Win.start w w2 r hr0)
    go_wp2_with (go_at_call 23; refine (ht2.add (by simp) 3).mono ?_; rintro e w3 ⟨rfl, ht3⟩)
    go_wp2_with (first | (go_at_call 11; refine ht3.rlen.mono ?_; rintro e w4 ⟨rfl, rfl⟩) | (go_at_call 22; refine (ht3.rem (by simp) 3 h3).mono ?_; rintro e w5 ⟨rfl, ht5⟩; have hb5 := ht5.bel))
    go_ret
    exact ⟨rfl, hb5⟩
  go_enter Try.func7, Try.ntmps7
  go_wp2_with (go_at_call 9; refine HN.out.mono ?_; rintro e w2 ⟨rfl, hr0⟩; have ht2 := Win.start w w2 r hr0)
  go_wp2_with (go_at_call 23; refine (ht2.add (by simp) 3).mono ?_; rintro e w3 ⟨rfl, ht3⟩)
  go_wp2_with (first | (go_at_call 11; refine ht3.rlen.mono ?_; rintro e w4 ⟨rfl, rfl⟩) | (go_at_call 22; refine (ht3.rem (by simp) 3 h3).mono ?_; rintro e w5 ⟨rfl, ht5⟩; have hb5 := ht5.bel))
  go_loopw [42] (fun i wr => ∃ k : Nat, k ≤ l1.length ∧ i = .int .i64 k ∧ Win w wr w.heap.size (w.heap.size + 1) r (last r (l1.take k)) (last r (l1.take k))) (fun i _ => l1.length - (intOf i).toNat)
  case atStart => exact ⟨0, Nat.zero_le _, rfl, by rw [List.take_zero, last_nil]; exact ht5⟩
  case round =>
    obtain ⟨k, hk, rfl, htw⟩ := hrel
    by_cases hlt : k < l1.length
    · have hbw := htw.bel
      obtain ⟨b, off, rfl, hb, hcell⟩ := (hl.below hbw).at_ k hlt
      have hpush : push r (last r (l1.take k)) l1[k] = last r (l1.take (k + 1)) := by rw [last_push r hr1, ← List.take_succ_eq_append_getElem hlt]
      have hlw : (last r (l1.take k)).length = min r k := by rw [last_len, List.length_take]; omega
      have hWl : (last r (l1.take (k + 1))).length = min r (k + 1) := by rw [last_len, List.length_take]; omega
      have hWb : ∀ x ∈ last r (l1.take (k + 1)), -9223372036854775808 ≤ x ∧ x ≤ 9223372036854775807 := fun x hx => hbd x (List.mem_of_mem_take (List.mem_of_mem_drop hx))
      generalize l1[k] = x at *
      obtain ⟨L, hL⟩ : ∃ L, L = last r (l1.take k) := ⟨_, rfl⟩
      rw [← hL] at htw hpush hlw
      obtain ⟨W, hW⟩ : ∃ W, W = last r (l1.take (k + 1)) := ⟨_, rfl⟩
      rw [← hW] at hpush hWl hWb
      have HW := Lib.hid hW
      clear hL hW
      obtain ⟨m, hm⟩ : ∃ m, W.length = m := ⟨_, rfl⟩
      have hm1' : 1 ≤ m := by omega
      have hm2' : m ≤ 30 := by omega
      have hsl : (srt W).length = m := by rw [srt_len]; exact hm
      obtain ⟨z0, hz0⟩ : ∃ z, (srt W)[0]? = some z := ⟨_, List.getElem?_eq_getElem (by omega)⟩
      obtain ⟨z1, hz1⟩ : ∃ z, (srt W)[m - 1]? = some z := ⟨_, List.getElem?_eq_getElem (by omega)⟩
      have h00 : (srt W)[prank W.length 0 - 1]? = some z0 := by rw [show prank W.length 0 - 1 = 0 by unfold prank; omega]; exact hz0
      have h100 : (srt W)[prank W.length 100 - 1]? = some z1 := by rw [show prank W.length 100 - 1 = m - 1 by unfold prank; omega]; exact hz1
      have HZ0 := Lib.hid hz0
      have HZ1 := Lib.hid hz1
      have H00 := Lib.hid h00
      have H100 := Lib.hid h100
      clear hz0 hz1 h00 h100
      have HM := Lib.hid hm
      have HSL := Lib.hid hsl
      by_cases hkr : k < r
      · have hcell2 := hcell
        have HLL := Lib.hid (show L.length ≤ 30 by omega)
        have HPM := Lib.hid (show (x :: L).Perm W by rw [← hpush]; unfold push; rw [if_pos (by omega)]; exact (List.perm_append_singleton _ _).symm)
        have hmm : ((m : Int) != m) = false := by simp
        have hPU := Lib.hid (htw.push x 0 false (by omega) (.inl ⟨by omega, rfl, rfl⟩))
        rw [hpush] at hPU
        clear htw hpush hcell2 hWl hm hsl hlw
        go_wp2_with (go_at_call 10; (refine hPU.out.mono ?_); rintro e w2 ⟨rfl, ht2⟩)
        go_wp2_with (go_at_call 23; refine (ht2.add (by have := HLL.out; omega) x).mono ?_; rintro e w4 ⟨rfl, ht4⟩; have ht4 := ht4.perm HPM.out)
        go_wp2_with (go_at_call 14; refine (ht4.all (by omega) (by have := HM.out; omega) hWb m HM.out).mono ?_; rintro e w5 ⟨aw, cw, rfl, ht5', hso⟩)
        go_wp2_with (go_at_call 29; refine hso.mono ?_; rintro e w6 ⟨rfl, hrow, ht6⟩)
        go_wp2_with (go_at_call 24; refine (ht6.hlen m HM.out).mono ?_; rintro e w7 ⟨rfl, rfl⟩)
        have hg0 := hrow.at_ 0 (by have := HSL.out; omega)
        obtain ⟨bs, os, rfl, hbs, hcs0⟩ := hg0
        go_loopw [70] (fun j wx => ∃ p : Nat, p ≤ m ∧ j = .int .i64 p ∧ RowI wx .i64 (some ⟨bs, os, none⟩) (srt W) ∧ Win w wx w.heap.size (w.heap.size + 1) r W W) (fun j _ => m - (intOf j).toNat)
        case atStart => exact ⟨0, Nat.zero_le _, rfl, hrow, ht6⟩
        case round =>
          obtain ⟨p, hp, rfl, hrx, htx⟩ := hrel
          by_cases hpl : p < m
          · have hps : p < (srt W).length := by have := HSL.out; omega
            obtain ⟨hbb, cz⟩ := hrx.cell p hps
            have HR := Lib.hid (htx.rank (p + 1) ((p : Int) + 1) (srt W)[p] (by omega) (by omega) (by omega) (by rw [Nat.add_sub_cancel, List.getElem?_eq_getElem hps]))
            generalize (srt W)[p] = z at *
            have hzz : (z != z) = false := by simp
            go_wp2_with (go_at_call 25; refine HR.out.mono ?_; rintro e w8 ⟨rfl, ht8, b8⟩; have hr8 := hrx.below b8)
            go_roundw
            case rel => exact ⟨p + 1, by omega, by go_num, hr8, ht8⟩
            case measure => simp [intOf]; omega
          · have hpm : p = m := by omega
            clear hpm
            have hzz0 : (z0 != z0) = false := by simp
            have hzz1 : (z1 != z1) = false := by simp
            have HP0 := Lib.hid (htx.percent 0 0 z0 rfl (by omega) (by have := HM.out; omega) H00.out)
            have HP1 := fun wy (h : Win w wy w.heap.size (w.heap.size + 1) r W W) => Lib.hid (h.percent 100 100 z1 rfl (by omega) (by have := HM.out; omega) H100.out)
            go_wp2_with (go_at_call 27; (with_reducible refine HP0.out.mono ?_); rintro e w8 ⟨rfl, ht8, b8⟩; have hr8 := hrx.below b8)
            go_wp2_with (go_at_call 27; (with_reducible refine (HP1 _ ht8).out.mono ?_); rintro e w9 ⟨rfl, ht9, b9⟩; have hr9 := hr8.below b9; have cz0 := hr9.get 0 z0 HZ0.out; have cz0' : w9.cell? ⟨bs, os, none⟩ = _ := cz0; have cz1 := hr9.get (m - 1) z1 HZ1.out)
            go_roundw
            case rel => exact ⟨k + 1, by omega, by go_num, by rw [← HW.out]; exact ht9⟩
            case measure => simp [intOf]; omega
      · have hcell2 := hcell
        obtain ⟨y, L', rfl⟩ : ∃ y L', L = y :: L' := by
          cases L with
          | nil => simp at hlw; omega
          | cons y L' => exact ⟨y, L', rfl⟩
        have HLL := Lib.hid (show L'.length ≤ 30 by simp at hlw; omega)
        have HPM := Lib.hid (show (x :: L').Perm W by rw [← hpush]; unfold push; rw [if_neg (by omega)]; exact (List.perm_append_singleton _ _).symm)
        have hmm : ((m : Int) != m) = false := by simp
        have hPU := Lib.hid (htw.push x y true (by omega) (.inr ⟨by omega, rfl, rfl⟩))
        rw [hpush] at hPU
        clear htw hpush hcell2 hWl hm hsl hlw
        go_wp2_with (go_at_call 10; (refine hPU.out.mono ?_); rintro e w2 ⟨rfl, ht2⟩)
        go_wp2_with (go_at_call 22; refine (ht2.rem (by have := HLL.out; simp; omega) y (List.Perm.refl _)).mono ?_; rintro e w3 ⟨rfl, ht3'⟩)
        go_wp2_with (go_at_call 23; refine (ht3'.add (by have := HLL.out; omega) x).mono ?_; rintro e w4 ⟨rfl, ht4⟩; have ht4 := ht4.perm HPM.out)
        go_wp2_with (go_at_call 14; refine (ht4.all (by omega) (by have := HM.out; omega) hWb m HM.out).mono ?_; rintro e w5 ⟨aw, cw, rfl, ht5', hso⟩)
        go_wp2_with (go_at_call 29; refine hso.mono ?_; rintro e w6 ⟨rfl, hrow, ht6⟩)
        go_wp2_with (go_at_call 24; refine (ht6.hlen m HM.out).mono ?_; rintro e w7 ⟨rfl, rfl⟩)
        have hg0 := hrow.at_ 0 (by have := HSL.out; omega)
        obtain ⟨bs, os, rfl, hbs, hcs0⟩ := hg0
        go_loopw [70] (fun j wx => ∃ p : Nat, p ≤ m ∧ j = .int .i64 p ∧ RowI wx .i64 (some ⟨bs, os, none⟩) (srt W) ∧ Win w wx w.heap.size (w.heap.size + 1) r W W) (fun j _ => m - (intOf j).toNat)
        case atStart => exact ⟨0, Nat.zero_le _, rfl, hrow, ht6⟩
        case round =>
          obtain ⟨p, hp, rfl, hrx, htx⟩ := hrel
          by_cases hpl : p < m
          · have hps : p < (srt W).length := by have := HSL.out; omega
            obtain ⟨hbb, cz⟩ := hrx.cell p hps
            have HR := Lib.hid (htx.rank (p + 1) ((p : Int) + 1) (srt W)[p] (by omega) (by omega) (by omega) (by rw [Nat.add_sub_cancel, List.getElem?_eq_getElem hps]))
            generalize (srt W)[p] = z at *
            have hzz : (z != z) = false := by simp
            go_wp2_with (go_at_call 25; refine HR.out.mono ?_; rintro e w8 ⟨rfl, ht8, b8⟩; have hr8 := hrx.below b8)
            go_roundw
            case rel => exact ⟨p + 1, by omega, by go_num, hr8, ht8⟩
            case measure => simp [intOf]; omega
          · have hpm : p = m := by omega
            clear hpm
            have hzz0 : (z0 != z0) = false := by simp
            have hzz1 : (z1 != z1) = false := by simp
            have HP0 := Lib.hid (htx.percent 0 0 z0 rfl (by omega) (by have := HM.out; omega) H00.out)
            have HP1 := fun wy (h : Win w wy w.heap.size (w.heap.size + 1) r W W) => Lib.hid (h.percent 100 100 z1 rfl (by omega) (by have := HM.out; omega) H100.out)
            go_wp2_with (go_at_call 27; (with_reducible refine HP0.out.mono ?_); rintro e w8 ⟨rfl, ht8, b8⟩; have hr8 := hrx.below b8)
            go_wp2_with (go_at_call 27; (with_reducible refine (HP1 _ ht8).out.mono ?_); rintro e w9 ⟨rfl, ht9, b9⟩; have hr9 := hr8.below b9; have cz0 := hr9.get 0 z0 HZ0.out; have cz0' : w9.cell? ⟨bs, os, none⟩ = _ := cz0; have cz1 := hr9.get (m - 1) z1 HZ1.out)
            go_roundw
            case rel => exact ⟨k + 1, by omega, by go_num, by rw [← HW.out]; exact ht9⟩
            case measure => simp [intOf]; omega
    · obtain rfl : k = l1.length := by omega
      have hbx := htw.bel
      go_wp2
      go_ret
      exact ⟨rfl, hbx⟩
end Go.Proofs.Ythlhbkcbemgkeaa
