/- The walk of the law LogParses. -/
import Derived.Test.YtfgmbmpbgokolaaSpeaks6
import Derived.Test.YtfgmbmpbgokolaaLogRef
import Derived.Test.YtfgmbmpbgokolaaSameR
namespace Go.Proofs.Ytfgmbmpbgokolaa
open Go.ChangeShapes Go.WideShapes Go.ChangeAt Go.RowKit
open PVar PCrc PFrame
set_option linter.unusedVariables false
set_option linter.unusedSimpArgs false

theorem build_big : ∀ (rs : List R), rs.length * 7 ≤ (build rs).length ∧ ∀ r ∈ rs, r.2.2.length ≤ (build rs).length
  | [] => by simp [build]
  | r :: rs => by
    obtain ⟨h1, h2⟩ := build_big rs
    have hp := encR_pos r
    have hl : (build (r :: rs)).length = (encR r).length + (build rs).length := by show (encR r ++ build rs).length = _; rw [List.length_append]
    refine ⟨by rw [hl, List.length_cons]; omega, fun x hx => ?_⟩
    rcases List.mem_cons.1 hx with rfl | hx
    · have : (encR x).length = _ := enc_len x.1 x.2.1 x.2.2
      have hb := body_len x.1 x.2.1 x.2.2
      omega
    · have := h2 x hx
      omega
theorem berr_zero : ∀ (rs : List R), (∀ r ∈ rs, err r.1 r.2.1 r.2.2 = 0) → berr rs = 0
  | [], _ => rfl
  | r :: rs, h => by
    have h1 := h r (List.mem_cons_self ..)
    unfold berr
    rw [if_neg (by omega)]
    exact berr_zero rs (fun x hx => h x (List.mem_cons_of_mem _ hx))

set_option maxRecDepth 100000 in
set_option maxHeartbeats 2000000 in
theorem walk_LogParses (w : World) (a0 : ByteArray) (w0 : a0.size ≤ maxLen) :
    Calls Try.prog 6 #[.string a0] w fun e w' => e = .returned (.bool true) ∧ Below w.heap.size w w' := by
  by_cases hbig : 1000 < a0.size
  · go_enter Try.func6, Try.ntmps6
    go_wp2_with (first | (go_at_call 16; refine (speaks6 _).mono ?_; rintro e w2 ⟨rfl, b2⟩))
    go_ret
    exact ⟨rfl, b2⟩
  have hl : a0.data.toList.length = a0.size := by simp
  have hp := fun w => log_parse a0 w (by omega)
  have hr := fun w => ref_parse a0 w (by omega)
  obtain ⟨s1, s2, s3, s4, s5⟩ := parse_spec _ a0.data.toList (Nat.le_refl _)
  obtain ⟨rs, n, er, hf⟩ : ∃ (rs : List R) (n er : Nat), parse a0.data.toList = (rs, n, er) := ⟨_, _, _, rfl⟩
  rw [hf] at hp hr s1 s2 s3
  simp only at s1 s2 s3
  have hbg := build_big rs
  rw [s2, List.length_take] at hbg
  have hb0 : berr rs = 0 := berr_zero rs (fun r hr => (s1 r hr).1)
  have hbd := fun (a : Option Addr) (c : Nat) (w : World) (h : RowR w a rs) => log_build a rs.length c rs w h rfl (fun r hr => by have := hbg.2 r hr; omega) (by omega)
  rw [hb0, if_pos rfl, s2] at hbd
  have hto := fun w => to_run (P := Try.prog) w 9 a0 n n rfl Try.underlying9 (by omega)
  have hn : n ≤ a0.size := by omega
  have HP := Lib.hid hp
  have HR := Lib.hid hr
  have HB := Lib.hid hbd
  clear hp hr hbd s1 s2 s4 s5 hbg hb0 hf hl s3
  generalize a0.data.toList.take n = T at *
  go_enter Try.func6, Try.ntmps6
  go_wp2_with (first | (go_at_call 16; refine (speaks6 _).mono ?_; rintro e w2 ⟨rfl, b2⟩) | (go_at_call 17; refine (HP.out _).mono ?_; rintro e w3 ⟨a, c, rfl, r3, b3⟩; have hb3 := on_below b2 b3) | (go_at_call 18; refine (HR.out _).mono ?_; rintro e w4 ⟨a', c', rfl, r4, b4⟩; have hb4 := on_below hb3 b4; have r34 := (r3.on b4).on ((Below.refl _ w4).alloc (Nat.le_refl _) (.cells #[.slice a' rs.length c', .int .i64 n, .int .i64 er] 44)); have hb4' := hb4.alloc hb4.size (.cells #[.slice a' rs.length c', .int .i64 n, .int .i64 er] 44)) | (go_at_call 19; refine (HB.out a c _ r34).mono ?_; rintro e w5 ⟨rfl, b5⟩; have hb5 := on_below hb4' b5; obtain ⟨hl5, q0, _, q1, _, q2, _⟩ := ((At.alloc w4 [.slice a' rs.length c', .int .i64 n, .int .i64 er] 44).on b5).three; have ra := r34.on b5; have rb := (r4.on ((Below.refl _ w4).alloc (Nat.le_refl _) (.cells #[.slice a' rs.length c', .int .i64 n, .int .i64 er] 44))).on b5) | (go_at_call 20; refine (ref_sameR a a' c c' rs rs _ ra rb true (by simp)).mono ?_; rintro e w6 ⟨rfl, m, rfl⟩))
  go_ret
  exact ⟨rfl, below_drewN hb5 _⟩
end Go.Proofs.Ytfgmbmpbgokolaa
