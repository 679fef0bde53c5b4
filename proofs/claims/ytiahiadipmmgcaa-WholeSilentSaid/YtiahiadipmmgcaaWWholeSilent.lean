/- The walk of WholeSilent. -/
import Derived.Test.YtiahiadipmmgcaaSilent
import Derived.Test.YtiahiadipmmgcaaRowG
import Derived.BigQuiet
import Derived.Deep.LoopGhost
namespace Go.Proofs.Ytiahiadipmmgcaa
set_option maxRecDepth 4000
open Go.ChangeShapes Go.WideShapes Go.ChangeAt Go.RowKit
open PTree PSat
set_option linter.unusedVariables false
set_option linter.unusedSimpArgs false

theorem info_ptr : (Try.prog.info? 27).map (fun i => (i.zero, i.size, i.bytes)) = some (some (.pointer none), 1, 8) := by kernel_rfl
/-- The cells of one turn. -/
def actW (x : Int × Int × Bool × Unit) : List Value := [.int .u8 x.1, .int .u8 x.2.1, .bool x.2.2.1]
def actWq (x : Int × Int × Bool × Unit) : Prop := (0 ≤ x.1 ∧ x.1 ≤ 255) ∧ (0 ≤ x.2.1 ∧ x.2.1 ≤ 255)
theorem Rd.actW {w : World} {cs : List Value} {d : Int × Int × Bool × Unit} (h : Rd w (.pair (.int .u8) (.pair (.int .u8) (.pair .bool .unit))) cs d) : cs = actW d ∧ actWq d := by
  obtain ⟨a, b, i, u⟩ := d
  obtain ⟨c1, d1, rfl, ⟨rfl, h1⟩, c2, d2, rfl, ⟨rfl, h2⟩, c3, d3, rfl, rfl, h5⟩ := h
  have h5' : d3 = [] := h5
  subst h5'
  exact ⟨rfl, bounds_u8 h1, bounds_u8 h2⟩

set_option maxRecDepth 100000 in
set_option maxHeartbeats 4000000 in
theorem walk_WholeSilent (w : World) (a0 : Int) (w0 : (Lit.int .u8 a0).wf = true) (a1 : Option Addr) (n1 c1 : Nat) (l1 : List Int) (w1 : Rd w (.sl (.int .i64)) [.slice a1 n1 c1] l1) (a2 : Option Addr) (n2 c2 : Nat) (l2 : List (Int × Int × Bool × Unit)) (w2 : Rd w (.sl (.pair (.int .u8) (.pair (.int .u8) (.pair .bool .unit)))) [.slice a2 n2 c2] l2) :
    Calls Try.prog 7 #[.int .u8 a0, .slice a1 n1 c1, .slice a2 n2 c2] w fun e w' => e = .returned (.bool true) ∧ Below w.heap.size w w' := by
  have hR : n2 = l2.length ∧ n2 ≤ c2 ∧ c2 ≤ maxLen ∧ RowG w 3 actW a2 l2 ∧ ∀ x ∈ l2, actWq x := Rd.rowG (s := .pair (.int .u8) (.pair (.int .u8) (.pair .bool .unit))) 3 rfl (by decide) actW actWq (fun w cs d h => Rd.actW h) w2
  obtain ⟨rfl, -, -, hr, hq'⟩ := hR
  have HQ := Lib.hid hq'
  obtain ⟨rfl, hl⟩ := w1.ints
  have h0 := bounds_u8 w0
  clear w0 w1 w2 hq'
  obtain ⟨n, hn⟩ : ∃ n, l1.length = n := ⟨_, rfl⟩
  have HN := Lib.hid hn
  rw [hn]
  clear hn
  have hck := ClockC.made w 25
  have hb0 : Below w.heap.size w (w.alloc (.cells #[.int .i64 0] 25)) := (Below.refl _ _).alloc (Nat.le_refl _) _
  have HN2 := Lib.hid (ti_new 2 2 (w.alloc (.cells #[.int .i64 0] 25)) (by decide) (by omega))
  have HLN := fun F g w' (z : Int) (hz : ((2 : Nat) : Int) = z) (h : TrI w w' F g 2 (fun _ => 0) (fun _ => false)) => Lib.hid (hz ▸ ti_len F g 2 _ _ w' h.tr)
  have HLV := fun F g w' (z : Int) (hz : ((1 : Nat) : Int) = z) (h : TrI w w' F g 2 (fun _ => 0) (fun _ => false)) => Lib.hid (hz ▸ ti_leave F g 2 _ _ 1 true w' h.tr (by omega))
  by_cases hlow : n < 1
  · go_enter Try.func7, Try.ntmps7
    go_wp2_with (go_at_call 19; (with_reducible refine HN2.out.mono ?_); intro e w1 h1; obtain ⟨F, g, rfl, i1⟩ := TrI.made hb0 h1)
    go_wp2_with (first | (go_at_call 24; (with_reducible refine (HLN _ _ _ 2 (by omega) i1).out.mono ?_); rintro e w3 ⟨rfl, rfl⟩) | (go_at_call 20; (with_reducible refine (HLV _ _ _ 1 (by omega) i1).out.mono ?_); rintro e w3 ⟨rfl, h3⟩; have i3 := i1.did h3; have hb3 := i3.new))
    go_ret
    exact ⟨rfl, hb3⟩
  have hlow2 : 1 ≤ n := by omega
  clear hlow
  by_cases hbig : 30 < n
  · go_enter Try.func7, Try.ntmps7
    go_wp2_with (go_at_call 19; (with_reducible refine HN2.out.mono ?_); intro e w1 h1; obtain ⟨F, g, rfl, i1⟩ := TrI.made hb0 h1)
    go_wp2_with (first | (go_at_call 24; (with_reducible refine (HLN _ _ _ 2 (by omega) i1).out.mono ?_); rintro e w3 ⟨rfl, rfl⟩) | (go_at_call 20; (with_reducible refine (HLV _ _ _ 1 (by omega) i1).out.mono ?_); rintro e w3 ⟨rfl, h3⟩; have i3 := i1.did h3; have hb3 := i3.new))
    go_ret
    exact ⟨rfl, hb3⟩
  have hsm : n ≤ 30 := by omega
  clear hbig
  by_cases hbig2 : 100 < l2.length
  · go_enter Try.func7, Try.ntmps7
    go_wp2_with (go_at_call 19; (with_reducible refine HN2.out.mono ?_); intro e w1 h1; obtain ⟨F, g, rfl, i1⟩ := TrI.made hb0 h1)
    go_wp2_with (first | (go_at_call 24; (with_reducible refine (HLN _ _ _ 2 (by omega) i1).out.mono ?_); rintro e w3 ⟨rfl, rfl⟩) | (go_at_call 20; (with_reducible refine (HLV _ _ _ 1 (by omega) i1).out.mono ?_); rintro e w3 ⟨rfl, h3⟩; have i3 := i1.did h3; have hb3 := i3.new))
    go_ret
    exact ⟨rfl, hb3⟩
  have hsm2 : l2.length ≤ 100 := by omega
  clear hbig2
  have hmk := run_make_row' (P := Try.prog) 42 3 (.int .i64 0) 8 Try.underlying42 (by kernel_rfl) rfl .i64 .i64 n (by omega) (by omega)
  have HNW := fun w' => Lib.hid (ti_new n n w' (by omega) (by omega))
  obtain ⟨T, hT, hT1⟩ : ∃ T : Int, 1 + a0 % 20 = T ∧ (1 ≤ T ∧ T ≤ 20) := ⟨_, rfl, by omega⟩
  have hTw : IntKind.i64.wrap (1 + a0 % 20) = T := by rw [IntKind.wrap_i64]; omega
  clear hT
  go_enter Try.func7, Try.ntmps7
  go_wp2_with (go_at_call 19; (with_reducible refine HN2.out.mono ?_); intro e w1 h1; obtain ⟨F0, g0, rfl, ht1, -, hF1, hbl1⟩ := h1; have hbw1 := on_below hb0 hbl1; have i1 : TrI w w1 F0 g0 2 (fun _ => 0) (fun _ => false) := ⟨ht1, fun b hb => Nat.le_trans hb0.size (hF1 b hb), hbw1⟩; have hck1 := hck.on hbl1)
  go_wp2_with (first | (go_at_call 24; (with_reducible refine (HLN _ _ _ 2 (by omega) i1).out.mono ?_); rintro e w3 ⟨rfl, rfl⟩) | (go_at_call 20; (with_reducible refine (HLV _ _ _ 1 (by omega) i1).out.mono ?_); rintro e w3 ⟨rfl, h3⟩; have i3 := i1.did h3; have hb3 := i3.new; have hck3 := hck1.upd h3.2 (fun hf => by have := hF1 _ hf; simp at this; omega)) | (go_at_call 19; (with_reducible refine (HNW _).out.mono ?_); intro e w4 h4; obtain ⟨F, g, rfl, ht4, -, hF4, hbl4⟩ := h4; have hb4 := on_below hb3 hbl4; have hck4 := hck3.on hbl4; have hlt3 := hck3.lt))
  have hW := Wb.start T 3 hck4 (Nat.le_refl _) hlt3 ht4 hF4 hb4
  clear HN2 HLN HLV hck hck1 hck3 hck4 ht4 hF4 hb4 hbl4 hb3 i3 h3 i1 hbw1 hbl1 hF1 ht1 hb0 HNW hmk hTw
  obtain ⟨i0, hi0, hz0, hz1, hz2⟩ := info_parts info_ptr
  have hmx : max T 0 = T := by omega
  have hadd : add 0 T = T := by unfold add clampI; (repeat' split) <;> omega
  have HNS := fun gc w' (h : ClockC w' gc 0) => Lib.hid (id_new gc 0 T w' h (by omega) (by omega) T (by rw [hmx]; exact hadd))
  clear hmx hadd
  go_loopw [10, 65] (fun v i wr => ∃ (k : Nat) (K : Nat → Int) (P : Nat → Nat) (S D : Nat → Int) (tag : Nat → Nat), k ≤ n ∧ i = .int .i64 k ∧ Wb w wr w.heap.size 0 F g n K (fun _ => false) w4.heap.size (fun _ => 0) v k P S D T tag ∧ (v = .slice none 0 0 ∨ ∃ gp off c, v = .slice (some ⟨gp, off, none⟩) k c) ∧ Hid (∀ j, j < k → S j = 0 ∧ D j = T) ∧ Hid (∀ j (h : j < l1.length), j < k → K j = l1[j])) (fun _ i _ => n - (intOf i).toNat)
  case atStart => exact ⟨0, _, _, _, _, _, Nat.zero_le _, rfl, hW, .inl rfl, Lib.hid (fun j hj => by omega), Lib.hid (fun j h hj => by omega)⟩
  case round =>
    obtain ⟨k, K, P, S, D, tag, hk, rfl, hWb, hv, HSD, HK⟩ := hrel
    clear hW
    by_cases hlt : k < n
    · have hlt2 : k < l1.length := by rw [HN.out]; exact hlt
      obtain ⟨b, off, rfl, hb', hc⟩ := (hl.below hWb.new).at_ k hlt2
      have HX : Hid (∀ j (h : j < l1.length), j < k + 1 → put K k l1[k] j = l1[j]) := Lib.hid (fun j hj hjk => by
        by_cases e : j = k
        · subst e; exact put_same _ _ _
        · rw [put_other _ _ _ e]; exact HK.out j hj (by omega))
      generalize l1[k] = x at *
      have HS := fun w' (h : TreeI w' F g n K (fun _ => false)) => Lib.hid (ti_set F g n K (fun _ => false) k x w' h hlt)
      have HV := Lib.hid hv
      have hm1 : k + 1 ≤ maxLen := by unfold maxLen; omega
      clear hv
      go_wp2_with (go_at_call 21; (with_reducible refine (HS _ hWb.tr).out.mono ?_); rintro e w5 ⟨rfl, h5⟩; have hW5 := hWb.tree h5)
      go_wp2_with (first | (go_at_call 10; (with_reducible refine (HNS _ _ hW5.ck).out.mono ?_); intro e w6 h6; have h6' := h6; obtain ⟨rfl, -, -, hb6⟩ := h6'; have hW6 := (hW5.on hb6).alloc (.cells #[.pointer (some ⟨w5.heap.size, 0, none⟩)] 27); have hsl := hW6.ps; have hwB := hW6.new.size) | (at_builtin; refine wpList_append_sl _ rfl (.tmp 74) (.tmp 77) 54 54 rfl 27 i0 (.pointer none) 8 Try.underlying54 hi0 hz0 hz1 hz2 rfl rfl hsl _ 1 [.pointer (some ⟨w5.heap.size, 0, none⟩)] rfl (src_oneN Try.underlying54 _ (.pointer (some ⟨w5.heap.size, 0, none⟩)) _ _ (by simp) rfl) hm1 (by omega) hwB ?_; intro v1 w7 q1 q2 q3))
      obtain ⟨tag', hW7⟩ := hW5.grow h6 HV.out _ q1 q2 q3
      go_roundw
      case rel => exact ⟨k + 1, _, _, _, _, tag', by omega, by go_num, hW7, .inr (Wb.shape q1), Lib.hid (fun j hj => by
        by_cases e : j = k
        · subst e; rw [put_same, put_same]; exact ⟨rfl, rfl⟩
        · rw [put_other _ _ _ e, put_other _ _ _ e]; exact HSD.out j (by omega)), HX⟩
      case measure => simp [intOf]; omega
    · obtain rfl : k = n := by omega
      rcases hv with h0 | ⟨gp, off, cp, rfl⟩
      · exfalso
        rcases hWb.ps.2 with ⟨_, h1⟩ | ⟨g', off', cap, h1, _⟩
        · omega
        · rw [h0] at h1; cases h1
      have hOK : Okay k 0 T (fun _ => false) S D (fun _ => 0) k := fun j hj => by
        obtain ⟨h1, h2⟩ := HSD.out j hj
        exact ⟨by omega, by simp [h1], by show D j = 0 + T; omega, by show (0 : Int) ≤ 0 ∧ (0 : Int) ≤ 0; omega, fun e => by omega, fun _ _ => by show (0 : Int) < 0 + T; omega⟩
      have hKK : Hid (∀ j (h : j < l1.length), K j = l1[j]) := Lib.hid (fun j h => HK.out j h (by have := HN.out; omega))
      clear HK HSD HNS hi0 hz0 hz1 hz2
      go_wp2
      go_loopg [82] l2.length (fun q i wx => ∃ (t : Nat) (z : Int) (out : Nat → Bool) (last S D : Nat → Int), t ≤ l2.length ∧ q = l2.length - t ∧ i = .int .i64 t ∧ (0 ≤ z ∧ z ≤ 8 * t) ∧ Wb w wx w.heap.size z F g k K out w4.heap.size last (.slice (some ⟨gp, off, none⟩) k cp) k P S D T tag ∧ Hid (Okay k z T out S D last k))
      case atStart => exact ⟨0, 0, _, _, S, D, Nat.zero_le _, rfl, rfl, by omega, hWb, Lib.hid hOK⟩
      case round =>
        clear hWb hOK
        obtain ⟨t, z, out, last, S, D, ht, hq, rfl, hz, hW, HOK⟩ := hrel
        have HQQ := Lib.hid hq
        clear hq
        by_cases hlt : t < l2.length
        · obtain ⟨b, off2, rfl, hb', hc⟩ := (hr.below hW.new).at_ t hlt
          have hxb := HQ.out _ (List.getElem_mem hlt)
          generalize l2[t] = x at *
          obtain ⟨by_, who, en, u⟩ := x
          have p0 := hc 0 (by decide)
          have p1 := hc 1 (by decide)
          have p2 := hc 2 (by decide)
          simp [actW] at p0 p1 p2
          obtain ⟨hbb, hwb⟩ := hxb
          simp only at hbb hwb
          have hA := At.alloc wr [.int .u8 by_, .int .u8 who, .bool en] 56
          have hW1 := hW.alloc (.cells #[.int .u8 by_, .int .u8 who, .bool en] 56)
          obtain ⟨hg, r0, y0, r1, y1, r2, y2⟩ := hA.three
          have HA := Lib.hid hA
          have hcl := hW.ck.lt
          have HNE : Hid (w.heap.size ≠ wr.heap.size) := Lib.hid (by omega)
          obtain ⟨y, hy, hy2⟩ : ∃ y : Int, by_ % 8 = y ∧ (0 ≤ y ∧ y < 8) := ⟨_, rfl, by omega⟩
          have hadd : add z y = z + y := by unfold add clampI; (repeat' split) <;> omega
          have HG := fun w' (h : ClockC w' w.heap.size z) => Lib.hid (ck_go w.heap.size z y w' h (by omega) (by omega) hy2.1)
          rw [hadd] at HG
          have HOK1 := Lib.hid (HOK.out.go y hy2.1)
          have hz1 : 0 ≤ z + y ∧ z + y ≤ 8 * ((t : Int) + 1) := by omega
          have HB4 : Hid (∀ j, j < k → P j ≠ wr.heap.size) := Lib.hid (fun j hj e => by have := (hW.st j hj).lt; omega)
          have HBF : Hid (¬ F wr.heap.size) := Lib.hid (fun hf => by have := hW.tr.lt _ hf; omega)
          clear hadd hc hA y0 y1 y2 hW HOK hcl
          generalize z + y = z1 at *
          go_wp2_with (go_at_call 9; (with_reducible refine (HG _ hW1.ck).out.mono ?_); rintro e w5 ⟨rfl, h5⟩; have hW5 := hW1.went h5; have hA5 := HA.out.upd h5.2 (fun e => HNE.out e.symm))
          clear HG r0 r1 r2 hg hW1 HA h5 p0 p1 p2
          go_loopg [93] k (fun q i wx => ∃ (j : Nat) (out : Nat → Bool) (S : Nat → Int), j ≤ k ∧ q = k - j ∧ i = .int .i64 j ∧ Wb w wx w.heap.size z1 F g k K out w4.heap.size last (.slice (some ⟨gp, off, none⟩) k cp) k P S D T tag ∧ Hid (Okay k z1 T out S D last j) ∧ At wx wr.heap.size [.int .u8 by_, .int .u8 who, .bool en])
          case atStart => exact ⟨0, out, S, Nat.zero_le _, rfl, rfl, hW5, HOK1, hA5⟩
          case round =>
            clear hW5 hA5 HOK1
            obtain ⟨j, out, S, hj, hq2, rfl, hW, HOK, hA⟩ := hrel
            have HQJ := Lib.hid hq2
            clear hq2
            by_cases hltj : j < k
            · obtain ⟨hgp, cp0⟩ := hW.ptr rfl j hltj
              have hnt : w.heap.size ≠ P j := fun e => by have := hW.t1; rw [e, hW.t4 j hltj] at this; omega
              have HW := Lib.hid hW
              have HA := Lib.hid hA
              clear hW hA
              by_cases hd : S j = 0 ∧ D j ≤ z1
              · have HOK2 := Lib.hid (HOK.out.yes hltj hd.1 hd.2)
                have HT := fun w' (h : Wb w w' w.heap.size z1 F g k K out w4.heap.size last (.slice (some ⟨gp, off, none⟩) k cp) k P S D T tag) => Lib.hid (id_tick w.heap.size z1 (P j) T (D j) w' h.ck hnt (hd.1 ▸ h.st j hltj) hd.2)
                have HV := fun w' (h : TreeI w' F g k K out) => Lib.hid (ti_leave F g k K out j true w' h hltj)
                clear hd
                go_wp2_with (go_at_call 15; (with_reducible refine (HT _ HW.out).out.mono ?_); rintro e w6 ⟨rfl, h6⟩; have hW6 := HW.out.did j hltj h6; rw [put_self] at hW6; have hA6 := HA.out.upd h6.2 (fun e => HB4.out j hltj e.symm))
                go_wp2_with (go_at_call 20; (with_reducible refine (HV _ hW6.tr).out.mono ?_); rintro e w7 ⟨rfl, h7⟩; have hW7 := hW6.tree h7; have hA7 := hA6.upd h7.2 HBF.out)
                go_roundg (k - (j + 1))
                case measure => (have := HQJ.out; omega)
                case rel => exact ⟨j + 1, _, _, by omega, rfl, by go_num, hW7, HOK2, hA7⟩
              · have hok := HOK.out j hltj
                have HOK2 := Lib.hid (HOK.out.no (i := j) (fun e => by
                  by_cases h : z1 < D j
                  · exact h
                  · exact absurd ⟨e, by omega⟩ hd))
                have HT := fun w' (h : Wb w w' w.heap.size z1 F g k K out w4.heap.size last (.slice (some ⟨gp, off, none⟩) k cp) k P S D T tag) => Lib.hid (id_tick_not w.heap.size z1 (P j) (S j) T (D j) w' h.ck (h.st j hltj) (fun e => by
                  by_cases h : z1 < D j
                  · exact h
                  · exact absurd ⟨e, by omega⟩ hd))
                clear hd hok
                go_wp2_with (go_at_call 15; (with_reducible refine (HT _ HW.out).out.mono ?_); rintro e w6 ⟨rfl, rfl⟩)
                go_roundg (k - (j + 1))
                case measure => (have := HQJ.out; omega)
                case rel => exact ⟨j + 1, _, _, by omega, rfl, by go_num, HW.out, HOK2, HA.out⟩
            · obtain rfl : j = k := by omega
              obtain ⟨hg, r0, y0, r1, y1, r2, y2⟩ := hA.three
              obtain ⟨p, hp⟩ : ∃ p : Nat, who % (j : Int) = p := ⟨(who % (j : Int)).toNat, by have := Int.emod_nonneg who (b := (j : Int)) (by omega); omega⟩
              have hpk : p < j := by have := Int.emod_lt_of_pos who (b := (j : Int)) (by omega); omega
              obtain ⟨hgp, cp0⟩ := hW.ptr rfl p hpk
              have HW := Lib.hid hW
              clear hW hA y0 y1 y2 HQJ hj
              have HP := Lib.hid hp
              clear hp
              go_upto_if 111 with fail
              rw [HP.out]
              go_cut [] (fun wx => ∃ (out : Nat → Bool) (last S D : Nat → Int), Wb w wx w.heap.size z1 F g j K out w4.heap.size last (.slice (some ⟨gp, off, none⟩) j cp) j P S D T tag ∧ Hid (Okay j z1 T out S D last j))
              case first =>
                have hok := HOK.out p hpk
                have hsr := hok.1
                have hnt : w.heap.size ≠ P p := fun e => by have := HW.out.t1; rw [e, HW.out.t4 p hpk] at this; omega
                cases en
                · by_cases hov : 2 ≤ S p
                  · have HR := Lib.hid (id_read_over w.heap.size (P p) (S p) T (D p) _ (HW.out.st p hpk) hov (by omega))
                    go_wp2_with (go_at_call 14; (with_reducible refine HR.out.mono ?_); rintro e w6 ⟨rfl, rfl⟩)
                    go_meet
                    exact ⟨_, _, _, _, HW.out, HOK⟩
                  · have hadd : add z1 (max T 0) = z1 + T := by rw [show max T 0 = T by omega]; unfold add clampI; (repeat' split) <;> omega
                    have HR := Lib.hid (id_read w.heap.size z1 (P p) (S p) T (D p) _ HW.out.ck hnt (by omega) (by omega) (HW.out.st p hpk) hsr.1 (by omega) (z1 + T) hadd)
                    have HNW := fun w' (h : ClockC w' w.heap.size z1) => Lib.hid (ck_now w.heap.size z1 w' h)
                    have HV := fun w' (h : TreeI w' F g j K out) => Lib.hid (ti_leave F g j K out p false w' h hpk)
                    have HOK2 := Lib.hid (HOK.out.read p (by omega) (by omega))
                    clear hadd hok
                    go_wp2_with (go_at_call 14; (with_reducible refine HR.out.mono ?_); rintro e w6 ⟨rfl, h6⟩; have hW6 := HW.out.did p hpk h6; obtain ⟨cl, zl⟩ := hW6.lastAt p hpk; have hll := hW6.la.lt; have hcl := hW6.ck; have HW6 := Lib.hid hW6; clear hW6)
                    go_wp2_with (go_at_call 25; (with_reducible refine (HNW _ hcl).out.mono ?_); rintro e w7 ⟨rfl, rfl⟩)
                    go_wp2_with (go_at_call 20; (with_reducible refine (HV _ (HW6.out.told p hpk z1).tr).out.mono ?_); rintro e w8 ⟨rfl, h8⟩; have hW8 := (HW6.out.told p hpk z1).tree h8)
                    go_meet
                    exact ⟨_, _, _, _, hW8, HOK2⟩
                · have HV := fun w' (h : TreeI w' F g j K out) => Lib.hid (ti_leave F g j K out p true w' h hpk)
                  by_cases hov : 2 ≤ S p
                  · have HR := Lib.hid (id_end_over (P p) (S p) T (D p) _ (HW.out.st p hpk) hov (by omega))
                    have HOK2 := Lib.hid (HOK.out.over p hov)
                    go_wp2_with (go_at_call 12; (with_reducible refine HR.out.mono ?_); rintro e w6 ⟨rfl, rfl⟩)
                    go_wp2_with (go_at_call 20; (with_reducible refine (HV _ HW.out.tr).out.mono ?_); rintro e w8 ⟨rfl, h8⟩; have hW8 := HW.out.tree h8)
                    go_meet
                    exact ⟨_, _, _, _, hW8, HOK2⟩
                  · have HR := Lib.hid (id_end (P p) (S p) T (D p) _ (HW.out.st p hpk) hsr.1 (by omega))
                    have HOK2 := Lib.hid (HOK.out.ends p)
                    clear hok
                    go_wp2_with (go_at_call 12; (with_reducible refine HR.out.mono ?_); rintro e w6 ⟨rfl, h6⟩; have hW6 := HW.out.did p hpk h6; rw [put_self] at hW6)
                    go_wp2_with (go_at_call 20; (with_reducible refine (HV _ hW6.tr).out.mono ?_); rintro e w8 ⟨rfl, h8⟩; have hW8 := hW6.tree h8)
                    go_meet
                    exact ⟨_, _, _, _, hW8, HOK2⟩
              case rest =>
                obtain ⟨out, last, S, D, hW, HOK⟩ := hcut
                clear HW r0 r1 r2 hg hgp cp0
                have HKJ : Hid (∀ i, i < j → ∃ h : i < l1.length, K i = l1[i]) := Lib.hid (fun i hi => by
                  have h : i < l1.length := by have := HN.out; omega
                  exact ⟨h, hKK.out i h⟩)
                go_wp2
                go_loopg [19, 20, 134] j (fun q sk so si wx => ∃ i : Nat, i ≤ j ∧ q = j - i ∧ si = .int .i64 i ∧ sk = .int .i64 (scan K out i).1 ∧ so = .bool (scan K out i).2.2 ∧ Wb w wx w.heap.size z1 F g j K out w4.heap.size last (.slice (some ⟨gp, off, none⟩) j cp) j P S D T tag)
                case atStart => exact ⟨0, Nat.zero_le _, rfl, rfl, rfl, rfl, hW⟩
                case round =>
                  clear hW
                  obtain ⟨i, hi, hq2, rfl, rfl, rfl, hW⟩ := hrel
                  have HQI := Lib.hid hq2
                  clear hq2
                  by_cases hlti : i < j
                  · obtain ⟨hgp, cp0⟩ := hW.ptr rfl i hlti
                    obtain ⟨hs, ho, hd, hla, h1i, h0i⟩ := HOK.out i hlti
                    have h0i := h0i hlti
                    obtain ⟨cl, -⟩ := hW.lastAt i hlti
                    have hll := hW.la.lt
                    have hw1 : IntKind.i64.wrap (last i + T) = last i + T := by rw [IntKind.wrap_i64]; omega
                    obtain ⟨hk1, hk2⟩ := HKJ.out i hlti
                    obtain ⟨b3, off3, rfl, hb3, hc3⟩ := (hl.below hW.new).at_ i hk1
                    rw [← hk2] at hc3
                    have hs1 : scan K out (i + 1) = if out i = false ∧ ((scan K out i).2.2 = false ∨ K i < (scan K out i).1) then (K i, (i : Int), true) else scan K out i := rfl
                    have HOV := fun q => Lib.hid (id_over (P i) (S i) T (D i) _ ((hW.drewN q).st i hlti) hs)
                    have HNW := fun q => Lib.hid (ck_now w.heap.size z1 _ (hW.drewN q).ck)
                    have HIS := fun q => Lib.hid (id_is (P i) (S i) T (D i) _ ((hW.drewN q).st i hlti))
                    have HC3 := Lib.hid (fun q => (by simpa using hc3 : (wr.drewN q).cell? ⟨b3, off3 + i, none⟩ = some (.int .i64 (K i))))
                    have HW := Lib.hid hW
                    have HS1 := Lib.hid hs1
                    clear hs1 hW hd hk2
                    generalize scan K out i = s at *
                    obtain ⟨key, place, ok⟩ := s
                    simp only at HS1 ⊢
                    generalize K i = xk at *
                    by_cases hS0 : S i = 0
                    · have hout : out i = false := by rw [ho]; simp [hS0]
                      have hlate : z1 < last i + T := h0i hS0
                      have hdo : decide ((2 : Int) ≤ S i) = false := decide_eq_false (by omega)
                      rw [hdo] at HOV
                      rw [hS0] at HIS
                      clear hdo hS0 ho h1i h0i hs
                      cases ok
                      · have hS : Hid (scan K out (i + 1) = (xk, (i : Int), true)) := Lib.hid (by rw [HS1.out, if_pos ⟨hout, .inl rfl⟩])
                        clear hout HS1
                        go_wp2
                        go_quiet (first | (go_at_call 17; (with_reducible refine (HOV _).out.mono ?_); rintro e wq ⟨rfl, rfl⟩; exact ⟨rfl, _, rfl⟩) | (go_at_call 25; (with_reducible refine (HNW _).out.mono ?_); rintro e wq ⟨rfl, rfl⟩; exact ⟨rfl, _, rfl⟩))
                        go_wp2_with (go_at_call 16; (with_reducible refine (HIS _).out.mono ?_); rintro e w6 ⟨rfl, rfl⟩)
                        go_roundg (j - (i + 1))
                        case measure => (have := HQI.out; omega)
                        case rel => exact ⟨i + 1, by omega, rfl, by go_num, by rw [hS.out], by rw [hS.out], HW.out.drewN _⟩
                      · by_cases hx : xk < key
                        · have hS : Hid (scan K out (i + 1) = (xk, (i : Int), true)) := Lib.hid (by rw [HS1.out, if_pos ⟨hout, .inr hx⟩])
                          clear hout HS1
                          go_wp2
                          go_quiet (first | (go_at_call 17; (with_reducible refine (HOV _).out.mono ?_); rintro e wq ⟨rfl, rfl⟩; exact ⟨rfl, _, rfl⟩) | (go_at_call 25; (with_reducible refine (HNW _).out.mono ?_); rintro e wq ⟨rfl, rfl⟩; exact ⟨rfl, _, rfl⟩))
                          go_wp2_with (go_at_call 16; (with_reducible refine (HIS _).out.mono ?_); rintro e w6 ⟨rfl, rfl⟩)
                          go_roundg (j - (i + 1))
                          case measure => (have := HQI.out; omega)
                          case rel => exact ⟨i + 1, by omega, rfl, by go_num, by rw [hS.out], by rw [hS.out], HW.out.drewN _⟩
                        · have hS : Hid (scan K out (i + 1) = (key, place, true)) := Lib.hid (by rw [HS1.out, if_neg (fun h => by simp at h; exact hx h.2)])
                          clear hout HS1
                          go_wp2
                          go_quiet (first | (go_at_call 17; (with_reducible refine (HOV _).out.mono ?_); rintro e wq ⟨rfl, rfl⟩; exact ⟨rfl, _, rfl⟩) | (go_at_call 25; (with_reducible refine (HNW _).out.mono ?_); rintro e wq ⟨rfl, rfl⟩; exact ⟨rfl, _, rfl⟩))
                          go_wp2_with (go_at_call 16; (with_reducible refine (HIS _).out.mono ?_); rintro e w6 ⟨rfl, rfl⟩)
                          go_roundg (j - (i + 1))
                          case measure => (have := HQI.out; omega)
                          case rel => exact ⟨i + 1, by omega, rfl, by go_num, by rw [hS.out], by rw [hS.out], HW.out.drewN _⟩
                    have hout : out i = true := by rw [ho]; simp [hS0]
                    by_cases hS1 : S i = 1
                    · have hlate : last i + T ≤ z1 := h1i hS1
                      have hdo : decide ((2 : Int) ≤ S i) = false := decide_eq_false (by omega)
                      rw [hdo] at HOV
                      rw [hS1] at HIS
                      clear hdo hS1 hS0 ho h1i h0i hs
                      have hS : Hid (scan K out (i + 1) = (key, place, ok)) := Lib.hid (by rw [HS1.out, if_neg (fun h => by simp [hout] at h)])
                      clear hout HS1
                      go_wp2
                      go_quiet (first | (go_at_call 17; (with_reducible refine (HOV _).out.mono ?_); rintro e wq ⟨rfl, rfl⟩; exact ⟨rfl, _, rfl⟩) | (go_at_call 25; (with_reducible refine (HNW _).out.mono ?_); rintro e wq ⟨rfl, rfl⟩; exact ⟨rfl, _, rfl⟩))
                      go_wp2_with (go_at_call 16; (with_reducible refine (HIS _).out.mono ?_); rintro e w6 ⟨rfl, rfl⟩)
                      go_roundg (j - (i + 1))
                      case measure => (have := HQI.out; omega)
                      case rel => exact ⟨i + 1, by omega, rfl, by go_num, by rw [hS.out], by rw [hS.out], HW.out.drewN _⟩
                    have hdo : decide ((2 : Int) ≤ S i) = true := decide_eq_true (by omega)
                    have hz0 : (S i == 0) = false := by simpa using hS0
                    rw [hdo] at HOV
                    clear hdo hS1 hS0 ho h1i h0i hs
                    have hS : Hid (scan K out (i + 1) = (key, place, ok)) := Lib.hid (by rw [HS1.out, if_neg (fun h => by simp [hout] at h)])
                    clear hout HS1
                    go_wp2
                    go_quiet (first | (go_at_call 17; (with_reducible refine (HOV _).out.mono ?_); rintro e wq ⟨rfl, rfl⟩; exact ⟨rfl, _, rfl⟩) | (go_at_call 25; (with_reducible refine (HNW _).out.mono ?_); rintro e wq ⟨rfl, rfl⟩; exact ⟨rfl, _, rfl⟩))
                    go_wp2_with (go_at_call 16; (with_reducible refine (HIS _).out.mono ?_); rintro e w6 ⟨rfl, rfl⟩)
                    go_roundg (j - (i + 1))
                    case measure => (have := HQI.out; omega)
                    case rel => exact ⟨i + 1, by omega, rfl, by go_num, by rw [hS.out], by rw [hS.out], HW.out.drewN _⟩
                  · obtain rfl : i = j := by omega
                    have HLE := Lib.hid (fun key place ok hs => ti_least F g i K out _ hW.tr key place ok hs)
                    have HW := Lib.hid hW
                    have hs : scan K out i = ((scan K out i).1, (scan K out i).2.1, (scan K out i).2.2) := rfl
                    have HS := Lib.hid hs
                    clear hs hW
                    generalize (scan K out i).1 = key at *
                    generalize (scan K out i).2.1 = place at *
                    generalize (scan K out i).2.2 = ok at *
                    have hkk : (key != key) = false := by simp
                    have hoo : (ok != ok) = false := by simp
                    go_wp2_with (go_at_call 23; (with_reducible refine (HLE.out _ _ _ HS.out).mono ?_); rintro e w5 ⟨rfl, rfl⟩)
                    go_roundg (l2.length - (t + 1))
                    case measure => (have := HQQ.out; omega)
                    case rel => exact ⟨t + 1, z1, out, last, S, D, by omega, rfl, by go_num, by omega, HW.out, HOK⟩
        · have hb9 := hW.new
          obtain rfl : t = l2.length := by omega
          go_wp2
          go_ret
          exact ⟨rfl, hb9⟩
end Go.Proofs.Ytiahiadipmmgcaa
