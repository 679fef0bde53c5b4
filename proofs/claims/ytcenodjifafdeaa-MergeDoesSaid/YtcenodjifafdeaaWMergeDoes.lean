/- The walk of MergeDoes. -/
import Derived.Test.YtcenodjifafdeaaKMerge
import Derived.BigQuiet
namespace Go.Proofs.Ytcenodjifafdeaa
set_option maxRecDepth 4000
open Go.ChangeShapes Go.WideShapes Go.ChangeAt Go.RowKit
open PTree PClamp
set_option linter.unusedVariables false
set_option linter.unusedSimpArgs false

set_option maxRecDepth 100000 in
set_option maxHeartbeats 4000000 in
theorem walk_MergeDoes (w : World) (a0 : Int) (w0 : (Lit.int .i64 a0).wf = true) (a1 : Option Addr) (n1 c1 : Nat) (l1 : List (Int × Int × Int × Unit)) (w1 : Rd w (.sl (.pair (.int .u8) (.pair (.int .i64) (.pair (.int .i64) .unit)))) [.slice a1 n1 c1] l1) :
    Calls Try.prog 3 #[.int .i64 a0, .slice a1 n1 c1] w fun e w' => e = .returned (.bool true) ∧ Below w.heap.size w w' := by
  have hR : n1 = l1.length ∧ n1 ≤ c1 ∧ c1 ≤ maxLen ∧ RowG w 3 actM a1 l1 ∧ ∀ x ∈ l1, actMq x := Rd.rowG (s := .pair (.int .u8) (.pair (.int .i64) (.pair (.int .i64) .unit))) 3 rfl (by decide) actM actMq (fun w cs d h => Rd.actM h) w1
  obtain ⟨rfl, -, -, hl, hq'⟩ := hR
  have HQ := Lib.hid hq'
  have h0 := bounds_i64 w0
  clear w0 w1 hq'
  by_cases hbig0 : 300 < a0
  · go_enter Try.func3, Try.ntmps3
    go_wp2_with (go_at_call 8; refine (speaks17 _).mono ?_; rintro e w1 ⟨rfl, hb1⟩)
    go_ret
    exact ⟨rfl, hb1⟩
  have hsm0 : a0 ≤ 300 := by omega
  clear hbig0
  by_cases hbig : 200 < l1.length
  · go_enter Try.func3, Try.ntmps3
    go_wp2_with (go_at_call 8; refine (speaks17 _).mono ?_; rintro e w1 ⟨rfl, hb1⟩)
    go_ret
    exact ⟨rfl, hb1⟩
  have hsm : l1.length ≤ 200 := by omega
  clear hbig
  obtain ⟨n, hn⟩ : ∃ n : Nat, max a0 0 = (n : Int) := ⟨(max a0 0).toNat, by omega⟩
  have hn3 : n ≤ 300 := by omega
  have hna : Hid ((0 ≤ a0 → a0 = (n : Int)) ∧ (a0 < 0 → n = 0)) := Lib.hid ⟨fun h => by omega, fun h => by omega⟩
  have HN := fun w' => Lib.hid (me_new a0 n w' hn (by omega))
  obtain ⟨i0, hi, hz0, hz1, hz2⟩ := info_parts info_part
  clear hn
  go_enter Try.func3, Try.ntmps3
  go_wp2_with (go_at_call 8; refine (speaks17 _).mono ?_; rintro e w1 ⟨rfl, hb1⟩)
  go_wp2_with (go_at_call 9; refine (HN _).out.mono ?_; intro e w2 h2; obtain ⟨F, g, rfl, i2⟩ := MeI.made hb1 h2)
  clear HN
  have hw2 := i2.new.size
  have hF2 : Hid (∀ b, F b → b < w2.heap.size) := Lib.hid (fun b hb => i2.me.lt b hb)
  go_loopw [6, 27] (fun v i wr => ∃ k : Nat, k ≤ n ∧ i = .int .i64 k ∧ Sl w2.heap.size wr 2 v k (nv k) ∧ MeI w wr F g n (fun _ => -9223372036854775808) (fun _ => 0) (-9223372036854775808) ∧ w2.heap.size ≤ wr.heap.size) (fun _ i _ => n - (intOf i).toNat)
  case atStart => exact ⟨0, Nat.zero_le _, rfl, Sl.nil _ _ _, i2, Nat.le_refl _⟩
  case round =>
    clear i2
    obtain ⟨k, hk, rfl, hs, hI, hsz⟩ := hrel
    by_cases hlt : k < n
    · have hka : (k : Int) < a0 := by have := hna.out; omega
      have hI1 := hI.alloc (.cells #[.int .i64 (-9223372036854775808), .int .i64 0] 28)
      have hm1 : k + 1 ≤ maxLen := by unfold maxLen; omega
      have hwB : w2.heap.size ≤ (wr.alloc (.cells #[.int .i64 (-9223372036854775808), .int .i64 0] 28)).heap.size := by simp; omega
      go_wp2_with (at_builtin; refine wpList_append_sl _ rfl (.tmp 29) (.tmp 31) 26 26 rfl 28 i0 _ 16 Try.underlying26 hi hz0 hz1 hz2 rfl rfl (hs.alloc _) _ 1 _ rfl (src_part Try.underlying26 _ (-9223372036854775808) 0 _ _ (by simp)) hm1 (by omega) hwB ?_; intro v1 w3 k1 k2 k3)
      go_roundw
      case rel => exact ⟨k + 1, by omega, by go_num, by rw [nv_snoc]; exact k1, hI1.upd k2 (fun b hb => by have h1 := (hs.lt b hb).1; exact ⟨by omega, fun hf => by have := hF2.out b hf; omega⟩), by have := k2.size; omega⟩
      case measure => simp [intOf]; omega
    · obtain rfl : k = n := by omega
      have hka : a0 ≤ (k : Int) := by have := hna.out; omega
      obtain ⟨a, b, off, c, rfl, ha, hp, hbb⟩ := PRow.of_sl hs
      have hM : Md w wr F g k (fun _ => -9223372036854775808) (fun _ => 0) (-9223372036854775808) b off := ⟨hI, hp, fun h hf => by have := hbb h; have := hF2.out b hf; omega, fun h => by have := hbb h; omega⟩
      have HA := Lib.hid ha
      clear hs hI hp hbb hna hF2 hi hz0 hz1 hz2 ha
      obtain ⟨n, rfl⟩ : ∃ n, n = k := ⟨k, rfl⟩
      go_wp2
      go_loopw [7, 36] (fun sn i wx => ∃ (k : Nat) (K S : Nat → Int) (now : Int), k ≤ l1.length ∧ i = .int .i64 k ∧ sn = .int .i64 now ∧ Md w wx F g n K S now b off) (fun _ i _ => l1.length - (intOf i).toNat)
      case atStart => exact ⟨0, _, _, _, Nat.zero_le _, rfl, rfl, hM⟩
      case round =>
        clear hM
        obtain ⟨k, K, S, now, hk2, rfl, rfl, hM⟩ := hrel
        by_cases hlt2 : k < l1.length
        · obtain ⟨bb, off2, rfl, hb', hc⟩ := (hl.below hM.me.new).at_ k hlt2
          have hxb := HQ.out _ (List.getElem_mem hlt2)
          generalize l1[k] = x at *
          obtain ⟨q, I, N, u⟩ := x
          have p0 := hc 0 (by decide)
          have p1 := hc 1 (by decide)
          have p2 := hc 2 (by decide)
          simp [actM] at p0 p1 p2
          obtain ⟨hqb, hIb, hNb⟩ := hxb
          simp only at hqb hIb hNb
          have hA := At.alloc wr [.int .u8 q, .int .i64 I, .int .i64 N] 30
          have hM1 := hM.alloc (.cells #[.int .u8 q, .int .i64 I, .int .i64 N] 30)
          obtain ⟨hg, r0, y0, r1, y1, r2, y2⟩ := hA.three
          have HAT := Lib.hid hA
          have HFA : Hid (¬ F wr.heap.size) := Lib.hid (fun hf => by have := hM.me.me.lt _ hf; omega)
          have HNE : Hid (0 < n → b ≠ wr.heap.size) := Lib.hid (fun h0 => by have := hM.pr.lt h0; omega)
          clear hc hA y0 y1 y2 hM
          by_cases hin : 0 ≤ I ∧ I < (n : Int)
          · obtain ⟨i, rfl⟩ : ∃ i : Nat, I = i := ⟨I.toNat, by omega⟩
            have hin : i < n := by omega
            obtain rfl := HA.out (by omega)
            rcases (show q % 3 = 0 ∨ q % 3 = 1 ∨ q % 3 = 2 by omega) with hq | hq | hq
            · have HC := Lib.hid (me_mark F g n K _ _ now i N _ hM1.me.me hin)
              have HM1 := Lib.hid hM1
              obtain ⟨L, hL⟩ : ∃ L, ml (put K i N) S n = L := ⟨_, rfl⟩
              clear hM1
              go_wp2_with (go_at_call 10; (with_reducible refine HC.out.mono ?_); rintro e w4 ⟨rfl, h4⟩; have hM5 := HM1.out.mark i hin N h4; have hA4 := HAT.out.upd h4.2 HFA.out; obtain ⟨hg4, u0, z0, u1, z1, u2, z2⟩ := hA4.three; have hA5 := hA4.set_other (p := ⟨b, off + i * 2, none⟩) (HNE.out (by omega)) (.int .i64 N); have hb4 := (HM1.out.pr.upd h4.2 HM1.out.nf).lt (by omega); obtain ⟨c4, f4⟩ := (HM1.out.pr.upd h4.2 HM1.out.nf).km i hin)
              obtain ⟨hg5, v0, x0, v1, x1, v2, x2⟩ := hA5.three
              have HM5 := Lib.hid hM5
              have HL5 := fun q => Lib.hid (me_least F g n _ _ _ (now) L _ (hM5.drewN q).me.me hL)
              have HR5 := fun q => Lib.hid (ref_least17 (some ⟨b, off, none⟩) b off n c _ _ _ (hM5.drewN q).pr (fun _ => rfl) (by omega) L hL)
              have HW5 := fun q => Lib.hid (me_now F g n _ _ _ (now) _ (hM5.drewN q).me.me)
              have HK5 := fun q => Lib.hid (me_at F g n _ _ _ (now) i _ (hM5.drewN q).me.me hin)
              have hLL : (L != L) = false := by simp
              have hnn : ((now) != (now)) = false := by simp
              have s3 := (hM5.pr.km i hin).1
              have hla := hM5.pr.lt (by omega)
              obtain ⟨kv, hkv⟩ : ∃ kv, (put K i N) i = kv := ⟨_, rfl⟩
              rw [hkv] at s3 HK5
              have hkk : (kv != kv) = false := by simp
              clear hkv
              clear hM5 hL
              generalize w4.setCell ⟨b, off + i * 2, none⟩ (.int .i64 N) = w5 at *
              clear z0 z1 z2 x0 x1 x2 hA4 hA5 h4 HC HM1 c4 f4
              go_wp2
              go_quiet (first | (go_at_call 14; (with_reducible refine (HL5 _).out.mono ?_); rintro e wq ⟨rfl, rfl⟩; exact ⟨rfl, _, rfl⟩) | (go_at_call 13; (with_reducible refine (HR5 _).out.mono ?_); rintro e wq ⟨rfl, rfl⟩; exact ⟨rfl, _, rfl⟩) | (go_at_call 15; (with_reducible refine (HW5 _).out.mono ?_); rintro e wq ⟨rfl, rfl⟩; exact ⟨rfl, _, rfl⟩) | (go_at_call 16; (with_reducible refine (HK5 _).out.mono ?_); rintro e wq ⟨rfl, rfl⟩; exact ⟨rfl, _, rfl⟩))
              go_wp2
              go_roundw
              case rel => exact ⟨k + 1, (put K i N), (S), (now), by omega, by go_num, rfl, HM5.out.drewN _⟩
              case measure => simp [intOf]; omega
            · obtain ⟨s, hs, hsb⟩ : ∃ s : Int, N % 256 % 4 = s ∧ (0 ≤ s ∧ s ≤ 3) := ⟨_, rfl, by omega⟩
              have hs4 : N % 4 = s := by omega
              have HC := Lib.hid (me_is2 F g n K S now i s _ _ _ hM1.me.me hin rfl rfl)
              have HM1 := Lib.hid hM1
              obtain ⟨L, hL⟩ : ∃ L, ml K (put S i s) n = L := ⟨_, rfl⟩
              clear hM1
              go_wp2_with (go_at_call 11; (with_reducible refine HC.out.mono ?_); rintro e w4 ⟨rfl, h4⟩; have hM5 := HM1.out.is i hin s h4; have hA4 := HAT.out.upd h4.2 HFA.out; obtain ⟨hg4, u0, z0, u1, z1, u2, z2⟩ := hA4.three; have hA5 := hA4.set_other (p := ⟨b, off + i * 2 + 1, none⟩) (HNE.out (by omega)) (.int .i64 s); have hb4 := (HM1.out.pr.upd h4.2 HM1.out.nf).lt (by omega); obtain ⟨c4, f4⟩ := (HM1.out.pr.upd h4.2 HM1.out.nf).is i hin)
              obtain ⟨hg5, v0, x0, v1, x1, v2, x2⟩ := hA5.three
              have HM5 := Lib.hid hM5
              have HL5 := fun q => Lib.hid (me_least F g n _ _ _ (now) L _ (hM5.drewN q).me.me hL)
              have HR5 := fun q => Lib.hid (ref_least17 (some ⟨b, off, none⟩) b off n c _ _ _ (hM5.drewN q).pr (fun _ => rfl) (by omega) L hL)
              have HW5 := fun q => Lib.hid (me_now F g n _ _ _ (now) _ (hM5.drewN q).me.me)
              have HK5 := fun q => Lib.hid (me_at F g n _ _ _ (now) i _ (hM5.drewN q).me.me hin)
              have hLL : (L != L) = false := by simp
              have hnn : ((now) != (now)) = false := by simp
              have s3 := (hM5.pr.km i hin).1
              have hla := hM5.pr.lt (by omega)
              obtain ⟨kv, hkv⟩ : ∃ kv, (K) i = kv := ⟨_, rfl⟩
              rw [hkv] at s3 HK5
              have hkk : (kv != kv) = false := by simp
              clear hkv
              clear hM5 hL
              generalize w4.setCell ⟨b, off + i * 2 + 1, none⟩ (.int .i64 s) = w5 at *
              clear z0 z1 z2 x0 x1 x2 hA4 hA5 h4 HC HM1 c4 f4
              go_wp2
              go_quiet (first | (go_at_call 14; (with_reducible refine (HL5 _).out.mono ?_); rintro e wq ⟨rfl, rfl⟩; exact ⟨rfl, _, rfl⟩) | (go_at_call 13; (with_reducible refine (HR5 _).out.mono ?_); rintro e wq ⟨rfl, rfl⟩; exact ⟨rfl, _, rfl⟩) | (go_at_call 15; (with_reducible refine (HW5 _).out.mono ?_); rintro e wq ⟨rfl, rfl⟩; exact ⟨rfl, _, rfl⟩) | (go_at_call 16; (with_reducible refine (HK5 _).out.mono ?_); rintro e wq ⟨rfl, rfl⟩; exact ⟨rfl, _, rfl⟩))
              go_wp2
              go_roundw
              case rel => exact ⟨k + 1, (K), (put S i s), (now), by omega, by go_num, rfl, HM5.out.drewN _⟩
              case measure => simp [intOf]; omega
            · obtain ⟨L, hL⟩ : ∃ L, ml K S n = L := ⟨_, rfl⟩
              by_cases hup : now < L
              · have HC := Lib.hid (me_adv F g n K _ _ now L _ hM1.me.me hL hup)
                have HM1 := Lib.hid hM1
                clear hM1
                have HRR := fun w' (h : Md w w' F g n K S L b off) => Lib.hid (ref_least17 (some ⟨b, off, none⟩) b off n c _ _ _ h.pr (fun _ => rfl) (by omega) L hL)
                have hLL0 : (L != L) = false := by simp
                go_wp2_with (first | (go_at_call 12; (with_reducible refine HC.out.mono ?_); rintro e w4 ⟨rfl, h4⟩; have hM5 := HM1.out.adv h4; have hA4 := HAT.out.upd h4.2 HFA.out; obtain ⟨hg4, u0, z0, u1, z1, u2, z2⟩ := hA4.three) | (go_at_call 13; (with_reducible refine (HRR _ hM5).out.mono ?_); rintro e w5 ⟨rfl, rfl⟩))
                have HM5 := Lib.hid hM5
                have HL5 := fun q => Lib.hid (me_least F g n _ _ _ (L) L _ (hM5.drewN q).me.me hL)
                have HR5 := fun q => Lib.hid (ref_least17 (some ⟨b, off, none⟩) b off n c _ _ _ (hM5.drewN q).pr (fun _ => rfl) (by omega) L hL)
                have HW5 := fun q => Lib.hid (me_now F g n _ _ _ (L) _ (hM5.drewN q).me.me)
                have HK5 := fun q => Lib.hid (me_at F g n _ _ _ (L) i _ (hM5.drewN q).me.me hin)
                have hLL : (L != L) = false := by simp
                have hnn : ((L) != (L)) = false := by simp
                have s3 := (hM5.pr.km i hin).1
                have hla := hM5.pr.lt (by omega)
                obtain ⟨kv, hkv⟩ : ∃ kv, (K) i = kv := ⟨_, rfl⟩
                rw [hkv] at s3 HK5
                have hkk : (kv != kv) = false := by simp
                clear hkv
                clear hM5 hL
                clear z0 z1 z2 hA4 h4 HC HM1 HRR
                go_quiet (first | (go_at_call 14; (with_reducible refine (HL5 _).out.mono ?_); rintro e wq ⟨rfl, rfl⟩; exact ⟨rfl, _, rfl⟩) | (go_at_call 13; (with_reducible refine (HR5 _).out.mono ?_); rintro e wq ⟨rfl, rfl⟩; exact ⟨rfl, _, rfl⟩) | (go_at_call 15; (with_reducible refine (HW5 _).out.mono ?_); rintro e wq ⟨rfl, rfl⟩; exact ⟨rfl, _, rfl⟩) | (go_at_call 16; (with_reducible refine (HK5 _).out.mono ?_); rintro e wq ⟨rfl, rfl⟩; exact ⟨rfl, _, rfl⟩))
                go_wp2
                go_roundw
                case rel => exact ⟨k + 1, (K), (S), (L), by omega, by go_num, rfl, HM5.out.drewN _⟩
                case measure => simp [intOf]; omega
              · have hup : L ≤ now := by omega
                have HC := Lib.hid (me_adv_not F g n K _ _ now L _ hM1.me.me hL hup)
                have HM1 := Lib.hid hM1
                clear hM1
                have HRR := fun w' (h : Md w w' F g n K S now b off) => Lib.hid (ref_least17 (some ⟨b, off, none⟩) b off n c _ _ _ h.pr (fun _ => rfl) (by omega) L hL)
                have hLL0 : (L != L) = false := by simp
                go_wp2_with (first | (go_at_call 12; (with_reducible refine HC.out.mono ?_); rintro e w4 ⟨rfl, h4⟩; have hM5 := HM1.out.adv h4; have hA4 := HAT.out.upd h4.2 HFA.out; obtain ⟨hg4, u0, z0, u1, z1, u2, z2⟩ := hA4.three) | (go_at_call 13; (with_reducible refine (HRR _ hM5).out.mono ?_); rintro e w5 ⟨rfl, rfl⟩))
                have HM5 := Lib.hid hM5
                have HL5 := fun q => Lib.hid (me_least F g n _ _ _ (now) L _ (hM5.drewN q).me.me hL)
                have HR5 := fun q => Lib.hid (ref_least17 (some ⟨b, off, none⟩) b off n c _ _ _ (hM5.drewN q).pr (fun _ => rfl) (by omega) L hL)
                have HW5 := fun q => Lib.hid (me_now F g n _ _ _ (now) _ (hM5.drewN q).me.me)
                have HK5 := fun q => Lib.hid (me_at F g n _ _ _ (now) i _ (hM5.drewN q).me.me hin)
                have hLL : (L != L) = false := by simp
                have hnn : ((now) != (now)) = false := by simp
                have s3 := (hM5.pr.km i hin).1
                have hla := hM5.pr.lt (by omega)
                obtain ⟨kv, hkv⟩ : ∃ kv, (K) i = kv := ⟨_, rfl⟩
                rw [hkv] at s3 HK5
                have hkk : (kv != kv) = false := by simp
                clear hkv
                clear hM5 hL
                clear z0 z1 z2 hA4 h4 HC HM1 HRR
                go_quiet (first | (go_at_call 14; (with_reducible refine (HL5 _).out.mono ?_); rintro e wq ⟨rfl, rfl⟩; exact ⟨rfl, _, rfl⟩) | (go_at_call 13; (with_reducible refine (HR5 _).out.mono ?_); rintro e wq ⟨rfl, rfl⟩; exact ⟨rfl, _, rfl⟩) | (go_at_call 15; (with_reducible refine (HW5 _).out.mono ?_); rintro e wq ⟨rfl, rfl⟩; exact ⟨rfl, _, rfl⟩) | (go_at_call 16; (with_reducible refine (HK5 _).out.mono ?_); rintro e wq ⟨rfl, rfl⟩; exact ⟨rfl, _, rfl⟩))
                go_wp2
                go_roundw
                case rel => exact ⟨k + 1, (K), (S), (now), by omega, by go_num, rfl, HM5.out.drewN _⟩
                case measure => simp [intOf]; omega
          · have HIN := Lib.hid hin
            rcases (show I < 0 ∨ (n : Int) ≤ I by omega) with hI | hI
            · clear hin
              rcases (show q % 3 = 0 ∨ q % 3 = 1 ∨ q % 3 = 2 by omega) with hq | hq | hq
              · have HC := Lib.hid (me_mark_none F g n K _ _ now I N _ hM1.me.me HIN.out)
                have hM5 := hM1
                obtain ⟨L, hL⟩ : ∃ L, ml K S n = L := ⟨_, rfl⟩
                clear hM1
                have HM5 := Lib.hid hM5
                have HL5 := fun q => Lib.hid (me_least F g n _ _ _ (now) L _ (hM5.drewN q).me.me hL)
                have HR5 := fun q => Lib.hid (ref_least17 a b off n c _ _ _ (hM5.drewN q).pr HA.out (by omega) L hL)
                have HW5 := fun q => Lib.hid (me_now F g n _ _ _ (now) _ (hM5.drewN q).me.me)
                have HK5 := fun q => Lib.hid (me_at_none F g n _ _ _ (now) I _ (hM5.drewN q).me.me HIN.out)
                have hLL : (L != L) = false := by simp
                have hnn : ((now) != (now)) = false := by simp
                clear hM5 hL
                go_wp2_with (go_at_call 10; (with_reducible refine HC.out.mono ?_); rintro e w4 ⟨rfl, rfl⟩)
                go_quiet (first | (go_at_call 14; (with_reducible refine (HL5 _).out.mono ?_); rintro e wq ⟨rfl, rfl⟩; exact ⟨rfl, _, rfl⟩) | (go_at_call 13; (with_reducible refine (HR5 _).out.mono ?_); rintro e wq ⟨rfl, rfl⟩; exact ⟨rfl, _, rfl⟩) | (go_at_call 15; (with_reducible refine (HW5 _).out.mono ?_); rintro e wq ⟨rfl, rfl⟩; exact ⟨rfl, _, rfl⟩) | (go_at_call 16; (with_reducible refine (HK5 _).out.mono ?_); rintro e wq ⟨rfl, rfl⟩; exact ⟨rfl, _, rfl⟩))
                go_wp2
                go_roundw
                case rel => exact ⟨k + 1, (K), (S), (now), by omega, by go_num, rfl, HM5.out.drewN _⟩
                case measure => simp [intOf]; omega
              · obtain ⟨s, hs, hsb⟩ : ∃ s : Int, N % 256 % 4 = s ∧ (0 ≤ s ∧ s ≤ 3) := ⟨_, rfl, by omega⟩
                have hs4 : N % 4 = s := by omega
                have HC := Lib.hid (me_is_none F g n K _ _ now I s _ _ hM1.me.me HIN.out rfl)
                have hM5 := hM1
                obtain ⟨L, hL⟩ : ∃ L, ml K S n = L := ⟨_, rfl⟩
                clear hM1
                have HM5 := Lib.hid hM5
                have HL5 := fun q => Lib.hid (me_least F g n _ _ _ (now) L _ (hM5.drewN q).me.me hL)
                have HR5 := fun q => Lib.hid (ref_least17 a b off n c _ _ _ (hM5.drewN q).pr HA.out (by omega) L hL)
                have HW5 := fun q => Lib.hid (me_now F g n _ _ _ (now) _ (hM5.drewN q).me.me)
                have HK5 := fun q => Lib.hid (me_at_none F g n _ _ _ (now) I _ (hM5.drewN q).me.me HIN.out)
                have hLL : (L != L) = false := by simp
                have hnn : ((now) != (now)) = false := by simp
                clear hM5 hL
                go_wp2_with (go_at_call 11; (with_reducible refine HC.out.mono ?_); rintro e w4 ⟨rfl, rfl⟩)
                go_quiet (first | (go_at_call 14; (with_reducible refine (HL5 _).out.mono ?_); rintro e wq ⟨rfl, rfl⟩; exact ⟨rfl, _, rfl⟩) | (go_at_call 13; (with_reducible refine (HR5 _).out.mono ?_); rintro e wq ⟨rfl, rfl⟩; exact ⟨rfl, _, rfl⟩) | (go_at_call 15; (with_reducible refine (HW5 _).out.mono ?_); rintro e wq ⟨rfl, rfl⟩; exact ⟨rfl, _, rfl⟩) | (go_at_call 16; (with_reducible refine (HK5 _).out.mono ?_); rintro e wq ⟨rfl, rfl⟩; exact ⟨rfl, _, rfl⟩))
                go_wp2
                go_roundw
                case rel => exact ⟨k + 1, (K), (S), (now), by omega, by go_num, rfl, HM5.out.drewN _⟩
                case measure => simp [intOf]; omega
              · obtain ⟨L, hL⟩ : ∃ L, ml K S n = L := ⟨_, rfl⟩
                by_cases hup : now < L
                · have HC := Lib.hid (me_adv F g n K _ _ now L _ hM1.me.me hL hup)
                  have HM1 := Lib.hid hM1
                  clear hM1
                  have HRR := fun w' (h : Md w w' F g n K S L b off) => Lib.hid (ref_least17 a b off n c _ _ _ h.pr HA.out (by omega) L hL)
                  have hLL0 : (L != L) = false := by simp
                  go_wp2_with (first | (go_at_call 12; (with_reducible refine HC.out.mono ?_); rintro e w4 ⟨rfl, h4⟩; have hM5 := HM1.out.adv h4; have hA4 := HAT.out.upd h4.2 HFA.out; obtain ⟨hg4, u0, z0, u1, z1, u2, z2⟩ := hA4.three) | (go_at_call 13; (with_reducible refine (HRR _ hM5).out.mono ?_); rintro e w5 ⟨rfl, rfl⟩))
                  have HM5 := Lib.hid hM5
                  have HL5 := fun q => Lib.hid (me_least F g n _ _ _ (L) L _ (hM5.drewN q).me.me hL)
                  have HR5 := fun q => Lib.hid (ref_least17 a b off n c _ _ _ (hM5.drewN q).pr HA.out (by omega) L hL)
                  have HW5 := fun q => Lib.hid (me_now F g n _ _ _ (L) _ (hM5.drewN q).me.me)
                  have HK5 := fun q => Lib.hid (me_at_none F g n _ _ _ (L) I _ (hM5.drewN q).me.me HIN.out)
                  have hLL : (L != L) = false := by simp
                  have hnn : ((L) != (L)) = false := by simp
                  clear hM5 hL
                  clear z0 z1 z2 hA4 h4 HC HM1 HRR
                  go_quiet (first | (go_at_call 14; (with_reducible refine (HL5 _).out.mono ?_); rintro e wq ⟨rfl, rfl⟩; exact ⟨rfl, _, rfl⟩) | (go_at_call 13; (with_reducible refine (HR5 _).out.mono ?_); rintro e wq ⟨rfl, rfl⟩; exact ⟨rfl, _, rfl⟩) | (go_at_call 15; (with_reducible refine (HW5 _).out.mono ?_); rintro e wq ⟨rfl, rfl⟩; exact ⟨rfl, _, rfl⟩) | (go_at_call 16; (with_reducible refine (HK5 _).out.mono ?_); rintro e wq ⟨rfl, rfl⟩; exact ⟨rfl, _, rfl⟩))
                  go_wp2
                  go_roundw
                  case rel => exact ⟨k + 1, (K), (S), (L), by omega, by go_num, rfl, HM5.out.drewN _⟩
                  case measure => simp [intOf]; omega
                · have hup : L ≤ now := by omega
                  have HC := Lib.hid (me_adv_not F g n K _ _ now L _ hM1.me.me hL hup)
                  have HM1 := Lib.hid hM1
                  clear hM1
                  have HRR := fun w' (h : Md w w' F g n K S now b off) => Lib.hid (ref_least17 a b off n c _ _ _ h.pr HA.out (by omega) L hL)
                  have hLL0 : (L != L) = false := by simp
                  go_wp2_with (first | (go_at_call 12; (with_reducible refine HC.out.mono ?_); rintro e w4 ⟨rfl, h4⟩; have hM5 := HM1.out.adv h4; have hA4 := HAT.out.upd h4.2 HFA.out; obtain ⟨hg4, u0, z0, u1, z1, u2, z2⟩ := hA4.three) | (go_at_call 13; (with_reducible refine (HRR _ hM5).out.mono ?_); rintro e w5 ⟨rfl, rfl⟩))
                  have HM5 := Lib.hid hM5
                  have HL5 := fun q => Lib.hid (me_least F g n _ _ _ (now) L _ (hM5.drewN q).me.me hL)
                  have HR5 := fun q => Lib.hid (ref_least17 a b off n c _ _ _ (hM5.drewN q).pr HA.out (by omega) L hL)
                  have HW5 := fun q => Lib.hid (me_now F g n _ _ _ (now) _ (hM5.drewN q).me.me)
                  have HK5 := fun q => Lib.hid (me_at_none F g n _ _ _ (now) I _ (hM5.drewN q).me.me HIN.out)
                  have hLL : (L != L) = false := by simp
                  have hnn : ((now) != (now)) = false := by simp
                  clear hM5 hL
                  clear z0 z1 z2 hA4 h4 HC HM1 HRR
                  go_quiet (first | (go_at_call 14; (with_reducible refine (HL5 _).out.mono ?_); rintro e wq ⟨rfl, rfl⟩; exact ⟨rfl, _, rfl⟩) | (go_at_call 13; (with_reducible refine (HR5 _).out.mono ?_); rintro e wq ⟨rfl, rfl⟩; exact ⟨rfl, _, rfl⟩) | (go_at_call 15; (with_reducible refine (HW5 _).out.mono ?_); rintro e wq ⟨rfl, rfl⟩; exact ⟨rfl, _, rfl⟩) | (go_at_call 16; (with_reducible refine (HK5 _).out.mono ?_); rintro e wq ⟨rfl, rfl⟩; exact ⟨rfl, _, rfl⟩))
                  go_wp2
                  go_roundw
                  case rel => exact ⟨k + 1, (K), (S), (now), by omega, by go_num, rfl, HM5.out.drewN _⟩
                  case measure => simp [intOf]; omega
            · have hI0 : (0 : Int) ≤ I := by omega
              have hdn : decide (I < (n : Int)) = false := decide_eq_false (by omega)
              clear hin
              rcases (show q % 3 = 0 ∨ q % 3 = 1 ∨ q % 3 = 2 by omega) with hq | hq | hq
              · have HC := Lib.hid (me_mark_none F g n K _ _ now I N _ hM1.me.me HIN.out)
                have hM5 := hM1
                obtain ⟨L, hL⟩ : ∃ L, ml K S n = L := ⟨_, rfl⟩
                clear hM1
                have HM5 := Lib.hid hM5
                have HL5 := fun q => Lib.hid (me_least F g n _ _ _ (now) L _ (hM5.drewN q).me.me hL)
                have HR5 := fun q => Lib.hid (ref_least17 a b off n c _ _ _ (hM5.drewN q).pr HA.out (by omega) L hL)
                have HW5 := fun q => Lib.hid (me_now F g n _ _ _ (now) _ (hM5.drewN q).me.me)
                have HK5 := fun q => Lib.hid (me_at_none F g n _ _ _ (now) I _ (hM5.drewN q).me.me HIN.out)
                have hLL : (L != L) = false := by simp
                have hnn : ((now) != (now)) = false := by simp
                clear hM5 hL
                go_wp2_with (go_at_call 10; (with_reducible refine HC.out.mono ?_); rintro e w4 ⟨rfl, rfl⟩)
                go_quiet (first | (go_at_call 14; (with_reducible refine (HL5 _).out.mono ?_); rintro e wq ⟨rfl, rfl⟩; exact ⟨rfl, _, rfl⟩) | (go_at_call 13; (with_reducible refine (HR5 _).out.mono ?_); rintro e wq ⟨rfl, rfl⟩; exact ⟨rfl, _, rfl⟩) | (go_at_call 15; (with_reducible refine (HW5 _).out.mono ?_); rintro e wq ⟨rfl, rfl⟩; exact ⟨rfl, _, rfl⟩) | (go_at_call 16; (with_reducible refine (HK5 _).out.mono ?_); rintro e wq ⟨rfl, rfl⟩; exact ⟨rfl, _, rfl⟩))
                go_wp2
                go_roundw
                case rel => exact ⟨k + 1, (K), (S), (now), by omega, by go_num, rfl, HM5.out.drewN _⟩
                case measure => simp [intOf]; omega
              · obtain ⟨s, hs, hsb⟩ : ∃ s : Int, N % 256 % 4 = s ∧ (0 ≤ s ∧ s ≤ 3) := ⟨_, rfl, by omega⟩
                have hs4 : N % 4 = s := by omega
                have HC := Lib.hid (me_is_none F g n K _ _ now I s _ _ hM1.me.me HIN.out rfl)
                have hM5 := hM1
                obtain ⟨L, hL⟩ : ∃ L, ml K S n = L := ⟨_, rfl⟩
                clear hM1
                have HM5 := Lib.hid hM5
                have HL5 := fun q => Lib.hid (me_least F g n _ _ _ (now) L _ (hM5.drewN q).me.me hL)
                have HR5 := fun q => Lib.hid (ref_least17 a b off n c _ _ _ (hM5.drewN q).pr HA.out (by omega) L hL)
                have HW5 := fun q => Lib.hid (me_now F g n _ _ _ (now) _ (hM5.drewN q).me.me)
                have HK5 := fun q => Lib.hid (me_at_none F g n _ _ _ (now) I _ (hM5.drewN q).me.me HIN.out)
                have hLL : (L != L) = false := by simp
                have hnn : ((now) != (now)) = false := by simp
                clear hM5 hL
                go_wp2_with (go_at_call 11; (with_reducible refine HC.out.mono ?_); rintro e w4 ⟨rfl, rfl⟩)
                go_quiet (first | (go_at_call 14; (with_reducible refine (HL5 _).out.mono ?_); rintro e wq ⟨rfl, rfl⟩; exact ⟨rfl, _, rfl⟩) | (go_at_call 13; (with_reducible refine (HR5 _).out.mono ?_); rintro e wq ⟨rfl, rfl⟩; exact ⟨rfl, _, rfl⟩) | (go_at_call 15; (with_reducible refine (HW5 _).out.mono ?_); rintro e wq ⟨rfl, rfl⟩; exact ⟨rfl, _, rfl⟩) | (go_at_call 16; (with_reducible refine (HK5 _).out.mono ?_); rintro e wq ⟨rfl, rfl⟩; exact ⟨rfl, _, rfl⟩))
                go_wp2
                go_roundw
                case rel => exact ⟨k + 1, (K), (S), (now), by omega, by go_num, rfl, HM5.out.drewN _⟩
                case measure => simp [intOf]; omega
              · obtain ⟨L, hL⟩ : ∃ L, ml K S n = L := ⟨_, rfl⟩
                by_cases hup : now < L
                · have HC := Lib.hid (me_adv F g n K _ _ now L _ hM1.me.me hL hup)
                  have HM1 := Lib.hid hM1
                  clear hM1
                  have HRR := fun w' (h : Md w w' F g n K S L b off) => Lib.hid (ref_least17 a b off n c _ _ _ h.pr HA.out (by omega) L hL)
                  have hLL0 : (L != L) = false := by simp
                  go_wp2_with (first | (go_at_call 12; (with_reducible refine HC.out.mono ?_); rintro e w4 ⟨rfl, h4⟩; have hM5 := HM1.out.adv h4; have hA4 := HAT.out.upd h4.2 HFA.out; obtain ⟨hg4, u0, z0, u1, z1, u2, z2⟩ := hA4.three) | (go_at_call 13; (with_reducible refine (HRR _ hM5).out.mono ?_); rintro e w5 ⟨rfl, rfl⟩))
                  have HM5 := Lib.hid hM5
                  have HL5 := fun q => Lib.hid (me_least F g n _ _ _ (L) L _ (hM5.drewN q).me.me hL)
                  have HR5 := fun q => Lib.hid (ref_least17 a b off n c _ _ _ (hM5.drewN q).pr HA.out (by omega) L hL)
                  have HW5 := fun q => Lib.hid (me_now F g n _ _ _ (L) _ (hM5.drewN q).me.me)
                  have HK5 := fun q => Lib.hid (me_at_none F g n _ _ _ (L) I _ (hM5.drewN q).me.me HIN.out)
                  have hLL : (L != L) = false := by simp
                  have hnn : ((L) != (L)) = false := by simp
                  clear hM5 hL
                  clear z0 z1 z2 hA4 h4 HC HM1 HRR
                  go_quiet (first | (go_at_call 14; (with_reducible refine (HL5 _).out.mono ?_); rintro e wq ⟨rfl, rfl⟩; exact ⟨rfl, _, rfl⟩) | (go_at_call 13; (with_reducible refine (HR5 _).out.mono ?_); rintro e wq ⟨rfl, rfl⟩; exact ⟨rfl, _, rfl⟩) | (go_at_call 15; (with_reducible refine (HW5 _).out.mono ?_); rintro e wq ⟨rfl, rfl⟩; exact ⟨rfl, _, rfl⟩) | (go_at_call 16; (with_reducible refine (HK5 _).out.mono ?_); rintro e wq ⟨rfl, rfl⟩; exact ⟨rfl, _, rfl⟩))
                  go_wp2
                  go_roundw
                  case rel => exact ⟨k + 1, (K), (S), (L), by omega, by go_num, rfl, HM5.out.drewN _⟩
                  case measure => simp [intOf]; omega
                · have hup : L ≤ now := by omega
                  have HC := Lib.hid (me_adv_not F g n K _ _ now L _ hM1.me.me hL hup)
                  have HM1 := Lib.hid hM1
                  clear hM1
                  have HRR := fun w' (h : Md w w' F g n K S now b off) => Lib.hid (ref_least17 a b off n c _ _ _ h.pr HA.out (by omega) L hL)
                  have hLL0 : (L != L) = false := by simp
                  go_wp2_with (first | (go_at_call 12; (with_reducible refine HC.out.mono ?_); rintro e w4 ⟨rfl, h4⟩; have hM5 := HM1.out.adv h4; have hA4 := HAT.out.upd h4.2 HFA.out; obtain ⟨hg4, u0, z0, u1, z1, u2, z2⟩ := hA4.three) | (go_at_call 13; (with_reducible refine (HRR _ hM5).out.mono ?_); rintro e w5 ⟨rfl, rfl⟩))
                  have HM5 := Lib.hid hM5
                  have HL5 := fun q => Lib.hid (me_least F g n _ _ _ (now) L _ (hM5.drewN q).me.me hL)
                  have HR5 := fun q => Lib.hid (ref_least17 a b off n c _ _ _ (hM5.drewN q).pr HA.out (by omega) L hL)
                  have HW5 := fun q => Lib.hid (me_now F g n _ _ _ (now) _ (hM5.drewN q).me.me)
                  have HK5 := fun q => Lib.hid (me_at_none F g n _ _ _ (now) I _ (hM5.drewN q).me.me HIN.out)
                  have hLL : (L != L) = false := by simp
                  have hnn : ((now) != (now)) = false := by simp
                  clear hM5 hL
                  clear z0 z1 z2 hA4 h4 HC HM1 HRR
                  go_quiet (first | (go_at_call 14; (with_reducible refine (HL5 _).out.mono ?_); rintro e wq ⟨rfl, rfl⟩; exact ⟨rfl, _, rfl⟩) | (go_at_call 13; (with_reducible refine (HR5 _).out.mono ?_); rintro e wq ⟨rfl, rfl⟩; exact ⟨rfl, _, rfl⟩) | (go_at_call 15; (with_reducible refine (HW5 _).out.mono ?_); rintro e wq ⟨rfl, rfl⟩; exact ⟨rfl, _, rfl⟩) | (go_at_call 16; (with_reducible refine (HK5 _).out.mono ?_); rintro e wq ⟨rfl, rfl⟩; exact ⟨rfl, _, rfl⟩))
                  go_wp2
                  go_roundw
                  case rel => exact ⟨k + 1, (K), (S), (now), by omega, by go_num, rfl, HM5.out.drewN _⟩
                  case measure => simp [intOf]; omega
        · have hb9 := hM.me.new
          obtain rfl : k = l1.length := by omega
          go_wp2
          go_ret
          exact ⟨rfl, hb9⟩
end Go.Proofs.Ytcenodjifafdeaa
