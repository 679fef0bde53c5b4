/- Contracts of the model's calls: how far a partition's time has come. -/
import Derived.Test.YtoecikeleoaecaaGreatMod1
namespace Go.Proofs.YtoecikeleoaecaaGreat
set_option maxRecDepth 4000
open Go.ChangeShapes Go.WideShapes Go.ChangeAt Go.RowKit
open PHist PRing PSat PClamp PBound PFrame PSign PTree PEv
set_option linter.unusedVariables false
set_option linter.unusedSimpArgs false

set_option maxHeartbeats 400000 in
theorem within_id (n m : Int) (h0 : 0 ≤ n) (h1 : n ≤ m) (w : World) : Calls Tryz.prog 127 #[.int .i64 n, .int .i64 0, .int .i64 m] w fun e w' => e = .returned (.int .i64 n) ∧ w = w' := by
  go_enter Tryz.func127, Tryz.ntmps127
  go_wp2
  all_goals go_ret
  all_goals refine ⟨ret_int ?_, rfl⟩
  all_goals omega
set_option maxHeartbeats 4000000 in
theorem mo_mark (v : Pv) (w : World) (hv : PvOk w v) (hp : v.p.Ok) (z : Int) (hz : v.p.mark = z) :
    Calls Tryz.prog 84 #[v.val] w fun e w' => e = .returned (.int .i64 z) ∧ Below w.heap.size w w' := by
  obtain ⟨⟨⟨kd, bd, pc, wn, sg⟩, recs, er, rd, is, tl⟩, a, c⟩ := v
  obtain ⟨hr, hle, hcap⟩ := hv
  simp only at hr hle hcap
  have hrd : rd ≤ recs.length := hp.rd
  have hfew : recs.length ≤ 400 := hp.few
  have hIR : InR recs := hp.inr
  have hck : rcheck ⟨kd, bd, pc, wn, sg⟩ = 0 := hp.chk
  have hft : Rul.Fits ⟨kd, bd, pc, wn, sg⟩ := hp.fit
  have hgz : gnow ⟨kd, bd, pc, wn, sg⟩ (recs.take rd) = z := hz
  have HBx := fun o => (Below.refl w.heap.size w).alloc (Nat.le_refl _) o
  have hA := At.alloc w [.int .i64 kd, .int .i64 bd, .int .i64 pc, .int .i64 wn, .int .i64 sg, .slice a recs.length c, .int .i64 er, .int .i64 rd, .int .i64 is, .int .i64 tl] 141
  have hb0 := HBx (.cells #[.int .i64 kd, .int .i64 bd, .int .i64 pc, .int .i64 wn, .int .i64 sg, .slice a recs.length c, .int .i64 er, .int .i64 rd, .int .i64 is, .int .i64 tl] 141)
  have HP := fun w' => part_to (P := Tryz.prog) (a := a) (n := recs.length) (c := c) (m := 3) (t := 56) (e := 117) hcap Tryz.underlying56 (by intro w; kernel_rfl) rd rd rfl (by omega) w'
  have HWI := fun w' => Lib.hid (within_id rd recs.length (by omega) (by omega) w')
  have HO := fun w' => Lib.hid (gn_of ⟨kd, bd, pc, wn, sg⟩ w' hck)
  have HNW := fun S t g L w' h => Lib.hid (gn_now S t g ⟨kd, bd, pc, wn, sg⟩ L w' h)
  have HSN := fun S t g k x w' (hk : k < recs.length) (hx : recs[k] = x) h => Lib.hid (gn_seen S t g ⟨kd, bd, pc, wn, sg⟩ (recs.take k) x w' h hck hft (hIR.take k) (hx ▸ hIR _ (List.getElem_mem hk)) (by rw [List.length_take]; omega))
  simp only [Rul.val] at HO
  have HGZ := Lib.hid hgz
  have HR := Lib.hid hr
  have HCK := Lib.hid (rcheck_some hck)
  simp only [Pv.val]
  clear hr hp hz hgz hck hft hIR
  go_enter Tryz.func84, Tryz.ntmps84
  go_upto_region 1 with fail
  generalize w.alloc (.cells #[.int .i64 kd, .int .i64 bd, .int .i64 pc, .int .i64 wn, .int .i64 sg, .slice a recs.length c, .int .i64 er, .int .i64 rd, .int .i64 is, .int .i64 tl] 141) = w1 at *
  obtain ⟨hg, p0, x0, p1, x1, p2, x2, p3, x3, p4, x4, p5, x5, p6, x6, p7, x7, p8, x8, p9, x9⟩ := hA.ten
  go_upto_region 4 with (first | (go_at_call 48; (with_reducible refine (HO _).out.mono ?_); intro e w4 hof; obtain ⟨t, g, S4, rfl, hG4, hS4, hb4⟩ := hof; have hmN := hG4.now; have hmS := hG4.seen; have hmE := hG4.enters; obtain ⟨-, q0, y0, q1, y1, q2, y2, q3, y3, q4, y4, q5, y5, q6, y6, q7, y7, q8, y8, q9, y9⟩ := (hA.on hb4).ten) | fail)
  have hbw4 := on_below hb0 hb4
  clear HO p0 x0 p1 x1 p2 x2 p3 x3 p4 x4 p5 x5 p6 x6 p7 x7 p8 x8 p9 x9 q0 y0 q1 y1 q2 y2 q3 y3 q4 y4 q6 y6 q8 y8 q9 y9 y5 y7 HBx hg
  go_cut [23, 24, 25] (fun v n i wx => v = .slice a rd c ∧ n = .int .i64 rd ∧ i = .int .i64 0 ∧ Below w4.heap.size w4 wx)
  case first =>
    clear HSN HNW HGZ HR HCK hmN hmS hmE hG4 hS4 hb4 hbw4 hb0 hA
    go_quiet ((go_at_call 127; refine (HWI _).out.mono ?_; rintro e9 wq ⟨rfl, rfl⟩; exact ⟨rfl, _, rfl⟩))
    all_goals (go_wp2_with fail; go_meet)
    all_goals exact ⟨rfl, rfl, rfl, on_quiet ⟨_, rfl⟩⟩
  case rest =>
    obtain ⟨rfl, rfl, rfl, hbc⟩ := hcut
    have hGc := hG4.on hbc
    have hbwc := on_below hbw4 hbc
    have hsz1 := hb0.size
    clear q5 q7 HP HWI
    go_wp2_with fail
    go_loopw [25] (fun i wr => ∃ (k : Nat) (S : Nat → Prop), k ≤ rd ∧ i = .int .i64 k ∧ GenC wr S t g ⟨kd, bd, pc, wn, sg⟩ (recs.take k) ∧ (∀ j, S j → w.heap.size ≤ j) ∧ Below w.heap.size w wr) (fun i _ => rd - (intOf i).toNat)
    case atStart => exact ⟨0, S4, Nat.zero_le _, rfl, hGc, fun j hj => Nat.le_trans hsz1 (hS4 j hj), hbwc⟩
    case round =>
      clear hGc hbwc hG4
      obtain ⟨k, S, hk, rfl, hG, hS, hbw⟩ := hrel
      by_cases hlt : k < rd
      · have hkl : k < recs.length := by omega
        obtain ⟨b, off, rfl, -, -⟩ := HR.out.at_ k hkl
        obtain ⟨hbb, r0, r1, r2⟩ := RowR.cell (HR.out.on hbw) k hkl
        have HTK := Lib.hid (List.take_succ_eq_append_getElem hkl)
        have HS := fun x (hx : recs[k] = x) wx h => HSN S t g k x wx hkl hx h
        generalize hx : recs[k] = x at *
        obtain ⟨rk, rt, rx⟩ := x
        simp only at r0 r1 r2
        have hba := (Below.refl wr.heap.size wr).alloc (Nat.le_refl _) (.cells #[.int .i64 rk, .int .i64 rt, .string (bstr rx)] 117)
        have hG1 := hG.on hba
        have HS1 := HS _ rfl _ hG1
        simp only at HS1
        have hbw1 := on_below hbw hba
        clear HS HSN hx hG
        go_wp2_with (first | ((with_reducible refine HS1.out.mono ?_); intro e9 w6 h6; obtain ⟨rfl, S6, hG6, hu6, hs6⟩ := h6) | fail)
        go_roundw
        case rel =>
          refine ⟨k + 1, S6, by omega, by go_num, by rw [HTK.out]; exact hG6, fun j hj => ?_, hbw1.upd hu6 hbw1.size (fun i _ h => hS i h)⟩
          rcases hs6 j hj with h | h
          · exact hS j h
          · exact Nat.le_trans hbw1.size h
        case measure => simp [intOf] <;> omega
      · obtain rfl : k = rd := by omega
        have HNN := HNW S t g _ wr hG
        have HBW := Lib.hid hbw
        clear hG hbw HSN HNW
        go_wp2_with (first | (go_at_call 64; (with_reducible refine HNN.out.mono ?_); rintro e9 w7 ⟨rfl, rfl⟩) | fail)
        go_ret
        exact ⟨ret_int HGZ.out, HBW.out⟩
end Go.Proofs.YtoecikeleoaecaaGreat
