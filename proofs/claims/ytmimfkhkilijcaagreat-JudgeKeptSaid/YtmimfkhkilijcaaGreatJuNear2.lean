/- Whether an element came too early, as the statement asks it: its contract. -/
import Derived.Test.YtmimfkhkilijcaaGreatJuNear
import Derived.Test.YtmimfkhkilijcaaGreatRaw25
import Derived.Test.YtmimfkhkilijcaaGreatKSrcA
import Derived.Test.YtmimfkhkilijcaaGreatKRul
import Derived.Test.YtmimfkhkilijcaaGreatAppNil
import Derived.Test.YtmimfkhkilijcaaGreatKSat
import Derived.Deep.DeepCutAuto
import Derived.Deep.RegionHeld3
namespace Go.Proofs.YtmimfkhkilijcaaGreat
set_option maxRecDepth 4000
open Go.ChangeShapes Go.WideShapes Go.ChangeAt Go.RowKit
open PHist PRing PSat PClamp PBound PFrame PSign PTree PEv
set_option linter.unusedVariables false
set_option linter.unusedSimpArgs false

theorem nA {w w' : World} (h : Below w.heap.size w w') (o : Obj) : Below w.heap.size w (w'.alloc o) := h.alloc h.size o
theorem nD {w w' : World} (h : Below w.heap.size w w') : Below w.heap.size w w'.drew := h.drew
def ShortF (f : Nat → List R) : Prop := ∀ i, Short (f i)
theorem ShortF.put {f : Nat → List R} (h : ShortF f) (i : Nat) (r : R) (hr : r.2.2.length ≤ 4096) : ShortF (put f i (f i ++ [r])) := by
  intro j
  unfold PTree.put
  by_cases e : j = i
  · rw [if_pos e]
    intro x hx
    rcases List.mem_append.1 hx with hx | hx
    · exact h i x hx
    · rw [List.mem_singleton.1 hx]; exact hr
  · rw [if_neg e]; exact h j
theorem src_recD {P : Program} {tx e' : TypeId} (hk : P.underlying tx = some (.slice e')) (w : World) (r : R) (e : TypeId) (N : Nat) (hN : w.heap.size = N) : Src P 3 tx (.slice (some ⟨N, 0, none⟩) 1 1) 1 (rcells r) (w.alloc (.cells (rcells r).toArray e)).drew := by
  subst hN
  refine Src.ofSlice _ hk ⟨w.heap.size, 0, none⟩ 1 1 (rcells r) rfl (fun j u hx => ?_) (fun u hx => ?_)
  · have ha := (At.alloc w (rcells r) e).drew
    obtain ⟨hj, rfl⟩ := List.getElem?_eq_some_iff.1 hx
    rw [Addr.add_lit, Nat.zero_add]
    exact (ha.2 j hj).1
  · simp [rcells] at hx
    rcases hx with rfl | rfl | rfl <;> rfl
set_option maxRecDepth 100000 in
set_option maxHeartbeats 8000000 in
theorem law_near (rs : List Rul) (t d : Int) (a : Option Addr) (n c : Nat) (w : World) (hr : RowU w a rs) (hn : n = rs.length) (hnl : n ≤ 1000) (hf : ∀ r ∈ rs, r.Fits) (hd : in64 d) (b : Option Addr) (N c2 : Nat) (l0 : List DX25) (hrl : RowG w 8 xf25 b l0) (hN : N = l0.length) (hl : N ≤ 700) (hq : ∀ d ∈ l0, xq25 d) (hsx : ∀ d ∈ l0, d.2.2.1.2.2.1.size ≤ 4096) (o : Bool) (ho : driftB rs d (l0.map xe25) = o) :
    Calls Tryz.prog 29 #[.agg #[.slice a n c, .int .i64 t, .int .i64 d], .slice b N c2] w fun e w' => e = .returned (.bool o) ∧ Below w.heap.size w w' := by
  have hmk := run_make_row' (P := Tryz.prog) 126 49 (.slice none 0 0) 24 Tryz.underlying126 (by kernel_rfl) rfl .i64 .i64 n (by omega) (by omega)
  have hb0 : Below w.heap.size w (w.alloc (.cells #[.slice a n c, .int .i64 t, .int .i64 d] 24)) := (Below.refl _ _).alloc (Nat.le_refl _) _
  have hA := At.alloc w [.slice a n c, .int .i64 t, .int .i64 d] 24
  obtain ⟨w0, hw0⟩ : ∃ w0, w.alloc (.cells #[.slice a n c, .int .i64 t, .int .i64 d] 24) = w0 := ⟨_, rfl⟩
  rw [hw0] at hb0 hA
  obtain ⟨L, hL⟩ : ∃ L, l0.map xe25 = L := ⟨_, rfl⟩
  have hLl : L.length = N := by rw [← hL, List.length_map]; exact hN.symm
  rw [hL] at ho
  have HLL := Lib.hid hLl
  have HLX := Lib.hid hL
  have HN := Lib.hid hn
  have HNN := Lib.hid hN
  have HQ := Lib.hid hq
  have HSX := Lib.hid hsx
  have HF := Lib.hid hf
  have HO := Lib.hid ho
  have HR := Lib.hid (hr.below hb0)
  have HRL := Lib.hid (hrl.below hb0)
  have HA := Lib.hid hA
  have HMK := Lib.hid hmk
  have hgw : w.heap.size < w0.heap.size := hA.1
  obtain ⟨-, c0, -, c1, -, c2', -⟩ := hA.three
  have HB0 := Lib.hid hb0
  clear hn hN hq hsx hf ho hr hrl hb0 hA hL hLl hmk
  go_enter Tryz.func29, Tryz.ntmps29
  go_wp2
  clear hw0
  go_loopw [14] (fun i wr => ∃ k : Nat, i = .int .i64 k ∧ k ≤ n ∧ Hid (∀ j (h : j < rs.length), j < k → rcheck rs[j] = 0) ∧ Below w0.heap.size w0 wr) (fun i _ => n - (intOf i).toNat)
  case atStart => exact ⟨0, rfl, Nat.zero_le _, fun j _ h => (Nat.not_lt_zero _ h).elim, Below.refl _ _⟩
  case round =>
    clear c0 c1 c2'
    obtain ⟨k, rfl, hk, HOK, hb⟩ := hrel
    have hwB := hb.size
    by_cases hlt : k < n
    · have hk1 : k < rs.length := by rw [← HN.out]; exact hlt
      have hrow := HR.out.below hb
      obtain ⟨b1, o1, rfl, -, -⟩ := hrow.at_ k hk1
      obtain ⟨hbl1, p0, p1, p2, p3, p4⟩ := RowU.cells hrow k hk1
      have hba := (Below.refl wr.heap.size wr).alloc (Nat.le_refl _) (.cells rs[k].cells.toArray 76)
      have HCK := fun wx z (hz : rcheck (rs[k]'hk1) = z) => Lib.hid (ref_check13 (rs[k]'hk1) wx z hz)
      have HNX : Hid (rcheck rs[k] = 0 → ∀ j (h : j < rs.length), j < k + 1 → rcheck rs[j] = 0) := fun h0 j hj hjk => by
        by_cases e : j = k
        · subst e; exact h0
        · exact HOK.out j hj (by omega)
      have HNO : Hid (rcheck rs[k] ≠ 0 → o = false) := fun h0 => by
        rw [← HO.out]
        unfold driftB
        cases hh : rulesB rs
        · rfl
        · exact absurd ((rulesB_true rs).1 hh _ (List.getElem_mem hk1)) h0
      clear hrow
      generalize rs[k] = r at *
      obtain ⟨rk, rb, rp, rn, rsg⟩ := r
      simp only at p0 p1 p2 p3 p4
      simp only [Rul.val] at HCK
      simp only [Rul.cells] at hba
      have hbB := hb.trans (hba.mono hwB)
      by_cases hz : rcheck ⟨rk, rb, rp, rn, rsg⟩ = 0
      · have HC2 := fun wx => HCK wx 0 hz
        have HN2 := Lib.hid (HNX.out hz)
        clear hz HCK HNO
        go_wp2_with (first | (go_at_call 56; (with_reducible refine (HC2 _).out.mono ?_); rintro e w4 ⟨rfl, hb4⟩) | fail)
        go_roundw
        case rel => exact ⟨k + 1, by go_num, hlt, HN2, on_below hbB hb4⟩
        case measure => simp [intOf] <;> omega
      · obtain rfl : o = false := HNO.out hz
        obtain ⟨z, hzz⟩ : ∃ z, rcheck ⟨rk, rb, rp, rn, rsg⟩ = z := ⟨_, rfl⟩
        rw [hzz] at hz
        have HC2 := fun wx => HCK wx z hzz
        have hz0 : (z != 0) = true := by rw [bne_iff_ne]; exact hz
        clear hz HCK HNO HNX hzz
        go_wp2_with (first | (go_at_call 56; (with_reducible refine (HC2 _).out.mono ?_); rintro e w4 ⟨rfl, hb4⟩) | fail)
        go_ret
        exact ⟨rfl, on_below HB0.out (on_below hbB hb4)⟩
    · obtain rfl : k = n := by omega
      obtain ⟨wq, hwq⟩ : ∃ wq, wq = wr := ⟨_, rfl⟩
      subst hwq
      have hrb : rulesB rs = true := by
        rw [rulesB_true]
        intro r hr
        obtain ⟨j, hj, rfl⟩ := List.mem_iff_getElem.1 hr
        exact HOK.out j hj (by rw [HN.out]; exact hj)
      have HCK := Lib.hid ((rulesB_true rs).1 hrb)
      have ho := HO.out
      unfold driftB at ho
      rw [hrb, Bool.true_and] at ho
      have HZ : Hid (driftAt rs d (fun _ => []) (-9223372036854775808) (L.drop 0) = o) := ho
      have HTG : Hid (∀ j, j < rs.length → rcheck (rulAt rs j) = 0 ∧ (rulAt rs j).Fits) := fun j hj => by
        rw [rulAt_lt hj]
        exact ⟨HCK.out _ (List.getElem_mem hj), HF.out _ (List.getElem_mem hj)⟩
      clear HCK ho hrb HOK HF HO
      obtain ⟨-, c0, -, c1, -, c2', -⟩ := (HA.out.below hb hgw).three
      have hmk := HMK.out
      have hP0 := nrc_made wq k 49
      have hb1 : Below w0.heap.size w0 (wq.alloc (.cells (madeCells #[.slice none 0 0] k) 49)) := hb.alloc hwB _
      go_wp2
      go_loopw [8, 28] (fun mm i wx => ∃ (q : Nat) (m : Int) (v : Nat → Value) (f : Nat → List R), i = .int .i64 q ∧ q ≤ N ∧ mm = .int .i64 m ∧ in64 m ∧ Nrc w0.heap.size wx wq.heap.size k v f ∧ FewR f q ∧ ShortF f ∧ Hid (driftAt rs d f m (L.drop q) = o) ∧ Below w0.heap.size w0 wx) (fun _ i _ => N - (intOf i).toNat)
      case atStart => exact ⟨0, _, _, _, rfl, Nat.zero_le _, rfl, by unfold in64; omega, ⟨hP0.row, Nat.le_trans hwB hP0.lo, fun i hi => (hP0.sl i hi).base hwB, hP0.ag, hP0.ap⟩, fun i => ⟨Nat.zero_le _, fun r hr => absurd hr List.not_mem_nil⟩, fun i r hr => absurd hr List.not_mem_nil, HZ, hb1⟩
      case round =>
        clear HZ hP0 hb1 hb c0 c1 c2' hmk
        obtain ⟨q, m, v, f, rfl, hq, rfl, hm, hP, hfew, hsf, HZ, hb⟩ := hrel
        have hwB2 := hb.size
        by_cases hlt : q < N
        · have hkl : q < l0.length := by rw [← HNN.out]; exact hlt
          have hkL : q < L.length := by rw [HLL.out]; exact hlt
          have hro := HRL.out.below hb
          obtain ⟨b1, off, rfl, -, -⟩ := hro.at_ q hkl
          have hev : L[q] = xe25 l0[q] := by simp only [← HLX.out, List.getElem_map]
          have HD := Lib.hid ((driftAt_drop rs d f m L q hkL _ hev).symm.trans HZ.out)
          obtain ⟨hbl, p0, p1, p2, p3, p4, p5, p6, p7⟩ := RowX.cells hro q hkl rfl
          have hxq := HQ.out _ (List.getElem_mem hkl)
          have hxs := HSX.out _ (List.getElem_mem hkl)
          generalize l0[q] = dd at *
          obtain ⟨kind, part, ⟨rk, rt, x, u1⟩, late, at_, er, u2⟩ := dd
          obtain ⟨y, rfl⟩ : ∃ y, x = bstr y := ⟨x.data.toList, rfl⟩
          simp only at p0 p1 p2 p3 p4 p5 p6 p7 hxs
          have hxs : y.length ≤ 4096 := by simpa [ByteArray.size] using hxs
          clear HZ hev hro
          have hb8 : Below wr.heap.size wr (wr.alloc (.cells #[.int .i64 kind, .int .i64 part, .int .i64 rk, .int .i64 rt, .string (bstr y), .bool late, .int .i64 at_, .int .i64 er] 59)) := (Below.refl _ _).alloc (Nat.le_refl _) _
          have hbB := hb.trans (hb8.mono hwB2)
          have hnx : FewR f (q + 1) := fun i => ⟨Nat.le_succ_of_le (hfew i).1, (hfew i).2⟩
          by_cases e1 : kind = 1
          · subst e1
            have hat : in64 at_ := hxq
            have HD2 : Hid (driftAt rs d f at_ (L.drop (q + 1)) = o) := HD.out
            clear HD
            go_wp2
            go_roundw
            case rel => exact ⟨q + 1, at_, v, f, by go_num, hlt, rfl, hat, hP.on hb8, hnx, hsf, HD2, hbB⟩
            case measure => simp [intOf] <;> omega
          by_cases e2 : kind = 2
          · subst e2
            have HD2 : Hid (driftAt rs d f m (L.drop (q + 1)) = o) := HD.out
            clear HD
            go_wp2
            go_roundw
            case rel => exact ⟨q + 1, m, v, f, by go_num, hlt, rfl, hm, hP.on hb8, hnx, hsf, HD2, hbB⟩
            case measure => simp [intOf] <;> omega
          have hxe : xe25 (kind, part, (rk, rt, bstr y, u1), late, at_, er, u2) = .el late part rk rt y := by
            unfold xe25 evof25
            rw [if_neg e1, if_neg e2]
          unfold xq25 at hxq
          rw [hxe] at HD hxq
          obtain ⟨hx1, hx2, hx3⟩ := hxq
          have HD2 : Hid ((decide (0 ≤ part ∧ part < rs.length) && (decide (gnow (rulAt rs part.toNat) (f part.toNat) ≤ add m d) && driftAt rs d (put f part.toNat (f part.toNat ++ [(rk, rt, y)])) m (L.drop (q + 1)))) = o) := HD.out
          rw [← HN.out] at HD2
          clear HD hxe
          by_cases h0 : part < 0
          · obtain rfl : o = false := by rw [← HD2.out, decide_eq_false (by omega), Bool.false_and]
            have hd0 : decide (part < 0) = true := decide_eq_true h0
            clear HD2 hx1 hx2 hx3 hxs hfew hsf hP hnx HTG HR HRL HA HMK HSX HQ HLX HLL HN HNN h0 hm hkl hkL
            go_wp2
            clear p0 p1 p2 p3 p4 p5 p6 p7
            have g1 := (At.alloc wr [.int .i64 kind, .int .i64 part, .int .i64 rk, .int .i64 rt, .string (bstr y), .bool late, .int .i64 at_, .int .i64 er] 59).eight.2.2.1
            go_quiet (fail)
            go_wp2
            go_ret
            exact ⟨rfl, dN (on_below HB0.out hbB) (on_below HB0.out hbB).size _⟩
          by_cases h1 : (k : Int) ≤ part
          · obtain rfl : o = false := by rw [← HD2.out, decide_eq_false (by omega), Bool.false_and]
            have hd0 : decide (part < 0) = false := decide_eq_false h0
            have hd1 : decide ((k : Int) ≤ part) = true := decide_eq_true h1
            clear HD2 hx1 hx2 hx3 hxs hfew hsf hP hnx HTG HR HRL HA HMK HSX HQ HLX HLL HN HNN h0 h1 hm hkl hkL
            go_wp2
            clear p0 p1 p2 p3 p4 p5 p6 p7
            have g1 := (At.alloc wr [.int .i64 kind, .int .i64 part, .int .i64 rk, .int .i64 rt, .string (bstr y), .bool late, .int .i64 at_, .int .i64 er] 59).eight.2.2.1
            go_quiet (fail)
            go_wp2
            go_ret
            exact ⟨rfl, dN (on_below HB0.out hbB) (on_below HB0.out hbB).size _⟩
          obtain ⟨i, rfl⟩ : ∃ i : Nat, part = (i : Int) := ⟨part.toNat, by omega⟩
          have hin : i < k := by omega
          rw [Int.toNat_natCast, decide_eq_true (by omega), Bool.true_and] at HD2
          have hil : i < rs.length := by rw [← HN.out]; exact hin
          have hC8 := hP.on hb8
          obtain ⟨f0, z0⟩ := hC8.cell i hin
          have hlg := hC8.row.lt
          have hbBx := hbB
          obtain ⟨bs, os, rfl, -, -⟩ := (HR.out.below hb).at_ i hil
          obtain ⟨hbl1, s0, s1, s2, s3, s4⟩ := RowU.cells ((HR.out.below hb).below hb8) i hil
          have hra := rulAt_lt hil
          obtain ⟨hck, hfit⟩ := HTG.out i hil
          obtain ⟨-, c0, -, c1, -, c2', -⟩ := (HA.out.below hbB hgw).three
          have hfi := hfew i
          obtain ⟨-, ai, ci, hv, hRi⟩ := RowR.of_sl (hP.sl i hin) hfi.2
          have HOB : Hid (∀ kk, (v i).ownBlock = some kk → kk < wr.heap.size) := fun kk h => ((hP.sl i hin).lt kk h).2
          have hPu := FewR.put hfew i (rk, rt, y) ⟨hx2, hx3⟩
          have hSu := hsf.put i (rk, rt, y) hxs
          have HNW := fun wx (hx : Below (wr.alloc (.cells #[.int .i64 kind, .int .i64 (i : Int), .int .i64 rk, .int .i64 rt, .string (bstr y), .bool late, .int .i64 at_, .int .i64 er] 59)).heap.size (wr.alloc (.cells #[.int .i64 kind, .int .i64 (i : Int), .int .i64 rk, .int .i64 rt, .string (bstr y), .bool late, .int .i64 at_, .int .i64 er] 59)) wx) z hz => Lib.hid (ref_now13_any (rulAt rs i) ai (f i).length ci (f i) wx rfl (hRi.on (on_below hb8 hx)) (hsf i) hfit hck (Nat.le_trans hfi.1 (by omega)) z hz)
          have HAD := fun wx => Lib.hid (ref_add m d wx hm hd)
          rw [hra] at HNW HD2
          generalize rs[i] = r at *
          obtain ⟨uk, ub, up, un, us⟩ := r
          simp only at s0 s1 s2 s3 s4
          simp only [Rul.val] at HNW
          have HA8 := At.alloc wr [.int .i64 kind, .int .i64 (i : Int), .int .i64 rk, .int .i64 rt, .string (bstr y), .bool late, .int .i64 at_, .int .i64 er] 59
          obtain ⟨hg8, g0, g1, g2, g3, g4, g5, g6, g7⟩ := HA8.eight
          rw [hv] at f0
          obtain ⟨W8, hW8⟩ : ∃ W8, wr.alloc (.cells #[.int .i64 kind, .int .i64 (i : Int), .int .i64 rk, .int .i64 rt, .string (bstr y), .bool late, .int .i64 at_, .int .i64 er] 59) = W8 := ⟨_, rfl⟩
          rw [hW8] at HA8 hg8 g0 g1 hb8 hC8 hbB f0 z0 s0 s1 s2 s3 s4 c0 c1 c2' hlg hbBx
          simp only [hW8] at HNW
          have HAF : Hid (∀ wx, Below W8.heap.size W8 wx → wx.cell? ⟨wr.heap.size, 1, none⟩ = some (.int .i64 (i : Int)) ∧ wx.cell? ⟨wq.heap.size, i, none⟩ = some (.slice ai (f i).length ci) ∧ wx.cell? ⟨w.heap.size, 0, none⟩ = some (.slice (some ⟨bs, os, none⟩) k c) ∧ wx.cell? ⟨w.heap.size, 2, none⟩ = some (.int .i64 d) ∧ wx.cell? ⟨bs, os + i * 5, none⟩ = some (.int .i64 uk) ∧ wx.cell? ⟨bs, os + i * 5 + 1, none⟩ = some (.int .i64 ub) ∧ wx.cell? ⟨bs, os + i * 5 + 2, none⟩ = some (.int .i64 up) ∧ wx.cell? ⟨bs, os + i * 5 + 3, none⟩ = some (.int .i64 un) ∧ wx.cell? ⟨bs, os + i * 5 + 4, none⟩ = some (.int .i64 us)) := fun wx hx => ⟨cell_kept hx g1, cell_kept hx f0, cell_kept hx c0, cell_kept hx c2', cell_kept hx s0, cell_kept hx s1, cell_kept hx s2, cell_kept hx s3, cell_kept hx s4⟩
          have HAE := Lib.hid HA8
          have HC8 := Lib.hid hC8
          have HV := Lib.hid hv
          obtain ⟨z, hz⟩ : ∃ z, gnow ⟨uk, ub, up, un, us⟩ (f i) = z := ⟨_, rfl⟩
          have HNZ := fun wx hx => HNW wx hx z hz
          rw [hz] at HD2
          clear HNW hz g1 g2 g3 g4 g5 g6 g7 f0 z0 s0 s1 s2 s3 s4 c0 c1 c2' hC8 HA8 hv hRi hP hra hck hfit hnx hfew hsf
          by_cases h2 : z ≤ add m d
          · rw [decide_eq_true h2, Bool.true_and] at HD2
            have hd0 : decide ((i : Int) < 0) = false := decide_eq_false (by omega)
            have hd1 : decide (k ≤ i) = false := decide_eq_false (by omega)
            have hd2 : decide (add m d < z) = false := decide_eq_false (by omega)
            go_wp2
            clear p0 p1 p2 p3 p4 p5 p6 p7 g0 hW8
            go_region_held3 (fun wx => wx.cell? ⟨wr.heap.size, 1, none⟩ = some (.int .i64 (i : Int)) ∧ wx.cell? ⟨wq.heap.size, i, none⟩ = some (.slice ai (f i).length ci) ∧ wx.cell? ⟨w.heap.size, 0, none⟩ = some (.slice (some ⟨bs, os, none⟩) k c) ∧ wx.cell? ⟨w.heap.size, 2, none⟩ = some (.int .i64 d) ∧ wx.cell? ⟨bs, os + i * 5, none⟩ = some (.int .i64 uk) ∧ wx.cell? ⟨bs, os + i * 5 + 1, none⟩ = some (.int .i64 ub) ∧ wx.cell? ⟨bs, os + i * 5 + 2, none⟩ = some (.int .i64 up) ∧ wx.cell? ⟨bs, os + i * 5 + 3, none⟩ = some (.int .i64 un) ∧ wx.cell? ⟨bs, os + i * 5 + 4, none⟩ = some (.int .i64 us)) (((with_reducible refine HAF.out _ ?_); (repeat (first | (with_reducible exact Below.refl _ _) | (with_reducible refine on_below ?_ hba) | (with_reducible refine nA ?_ _) | (with_reducible refine nD ?_))))) (first | (go_at_call 57; (with_reducible refine (HNZ _ (by (repeat (first | (with_reducible exact Below.refl _ _) | (with_reducible refine on_below ?_ hba) | (with_reducible refine nA ?_ _) | (with_reducible refine nD ?_))))).out.mono ?_); intro e w6 h6; obtain ⟨rfl, hba⟩ := h6) | (go_at_call 58; (with_reducible refine (HAD _).out.mono ?_); rintro e w7 ⟨rfl, rfl⟩) | fail)
            have hB6 : Below W8.heap.size W8 w6 := on_below (Below.refl _ _).drew hba
            have hC6 := HC8.out.on hB6
            obtain ⟨hg6, e0, e1x, e2x, e3, e4, e5, e6, e7⟩ := (HAE.out.on hB6).eight
            have hg7 := hC6.row.lt
            obtain ⟨f0, z0⟩ := hC6.cell i hin
            rw [HV.out] at f0
            have hsl6 := hC6.sl i hin
            have h6w := on_below hbB hB6
            have hw6 := h6w.size
            have hCF := fun wx (hx : Below w6.heap.size w6 wx) => hC6.on hx
            have hSF : ∀ wx, Below w6.heap.size w6 wx → Sl w0.heap.size wx 3 (.slice ai (f i).length ci) (f i).length (rv (f i)) := fun wx hx => by have := hsl6.onW hx; rw [HV.out] at this; exact this
            obtain ⟨i0, hi, hz0, hz1, hz2⟩ := info_parts info_rec
            have hfq : (f i).length ≤ 700 := by have := hfi.1; omega
            have hfl : (f i).length + 1 ≤ maxLen := by unfold maxLen; omega
            clear hba hfi
            go_wp2
            go_region_law (first | (refine step_append_own25 rfl (.tmp 70) (.tmp 73) 49 49 rfl 57 i0 _ 32 Tryz.underlying49 hi hz0 hz1 hz2 rfl (.slice ai (f i).length ci) (.slice (some ⟨w6.heap.size, 0, none⟩) 1 1) 1 (rcells (rk, rt, y)) (by simp [Act.eval, Act.put]) (by simp [Act.eval, Act.put]) (hSF _ (by (repeat (first | (with_reducible exact Below.refl _ _) | (with_reducible refine nA ?_ _) | (with_reducible refine nD ?_))))) (src_recD Tryz.underlying49 w6 (rk, rt, y) 57 _ rfl) hfl (by omega) (by simp; omega) ?_; intro a1 c1 w7 k1 k2 k3; have hM := Nrc.more hC6 hw6 (w1 := (w6.alloc (.cells (rcells (rk, rt, y)).toArray 57)).drew) (by (repeat (first | (with_reducible exact Below.refl _ _) | (with_reducible refine nA ?_ _) | (with_reducible refine nD ?_)))) i hin (rk, rt, y) (.slice a1 ((f i).length + 1) c1) k1 (by rw [HV.out]; exact k2) (by rw [HV.out]; exact k3); obtain ⟨hM1, hM2, hM3, hM4⟩ := hM; have hM5 := (((HAE.out.on hB6).on ((Below.refl w6.heap.size w6).alloc (Nat.le_refl _) (.cells (rcells (rk, rt, y)).toArray 57)).drew).upd k2 (fun e => by have := HOB.out _ (by rw [HV.out]; exact e); omega)).eight.2.2.1) | fail)
            all_goals (go_wp2; go_roundw)
            all_goals first
              | exact ⟨q + 1, m, _, _, by go_num, hlt, rfl, hm, hM1, hPu, hSu, HD2, (h6w.alloc hw6 _).drew.trans hM2⟩
              | (simp [intOf] <;> omega)
          · obtain rfl : o = false := by rw [← HD2.out, decide_eq_false h2, Bool.false_and]
            have hd0 : decide ((i : Int) < 0) = false := decide_eq_false (by omega)
            have hd1 : decide (k ≤ i) = false := decide_eq_false (by omega)
            have hd2 : decide (add m d < z) = true := decide_eq_true (by omega)
            go_wp2
            clear p0 p1 p2 p3 p4 p5 p6 p7 g0 hW8
            go_region_held3 (fun wx => wx.cell? ⟨wr.heap.size, 1, none⟩ = some (.int .i64 (i : Int)) ∧ wx.cell? ⟨wq.heap.size, i, none⟩ = some (.slice ai (f i).length ci) ∧ wx.cell? ⟨w.heap.size, 0, none⟩ = some (.slice (some ⟨bs, os, none⟩) k c) ∧ wx.cell? ⟨w.heap.size, 2, none⟩ = some (.int .i64 d) ∧ wx.cell? ⟨bs, os + i * 5, none⟩ = some (.int .i64 uk) ∧ wx.cell? ⟨bs, os + i * 5 + 1, none⟩ = some (.int .i64 ub) ∧ wx.cell? ⟨bs, os + i * 5 + 2, none⟩ = some (.int .i64 up) ∧ wx.cell? ⟨bs, os + i * 5 + 3, none⟩ = some (.int .i64 un) ∧ wx.cell? ⟨bs, os + i * 5 + 4, none⟩ = some (.int .i64 us)) (((with_reducible refine HAF.out _ ?_); (repeat (first | (with_reducible exact Below.refl _ _) | (with_reducible refine on_below ?_ hba) | (with_reducible refine nA ?_ _) | (with_reducible refine nD ?_))))) (first | (go_at_call 57; (with_reducible refine (HNZ _ (by (repeat (first | (with_reducible exact Below.refl _ _) | (with_reducible refine on_below ?_ hba) | (with_reducible refine nA ?_ _) | (with_reducible refine nD ?_))))).out.mono ?_); intro e w6 h6; obtain ⟨rfl, hba⟩ := h6) | (go_at_call 58; (with_reducible refine (HAD _).out.mono ?_); rintro e w7 ⟨rfl, rfl⟩) | fail)
            go_wp2
            go_ret
            exact ⟨rfl, on_below HB0.out (on_below hbB (on_below (Below.refl W8.heap.size W8).drew hba))⟩
        · obtain rfl : q = N := by omega
          have h9 := HZ.out
          rw [List.drop_eq_nil_of_le (by rw [HLL.out]; exact Nat.le_refl _)] at h9
          obtain rfl : o = true := h9.symm
          go_wp2
          go_ret
          exact ⟨rfl, on_below HB0.out hb⟩
end Go.Proofs.YtmimfkhkilijcaaGreat
