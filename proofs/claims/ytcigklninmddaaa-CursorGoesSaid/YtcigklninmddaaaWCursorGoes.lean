/- The walk of the law CursorGoes. -/
import Derived.Test.YtcigklninmddaaaSpeaks21
import Derived.Test.YtcigklninmddaaaKLogR
namespace Go.Proofs.Ytcigklninmddaaa
set_option maxRecDepth 4000
open Go.ChangeShapes Go.WideShapes Go.ChangeAt Go.RowKit
open PVar PCrc PFrame
set_option linter.unusedVariables false
set_option linter.unusedSimpArgs false

theorem RowR.upd {S : Nat → Prop} {w w' : World} {a : Option Addr} {l : List R} (h : RowR w a l) (hu : Upd S w w') (hn : ∀ q, a = some q → ¬ S q.block) : RowR w' a l :=
  ⟨h.len, fun i hi => by
    obtain ⟨b, off, h1, h2, h3, h4, h5⟩ := h.at_ i hi
    have hS : ¬ S b := hn _ h1
    exact ⟨b, off, h1, Nat.lt_of_lt_of_le h2 hu.size, by rw [hu.cell (p := ⟨b, off + i * 3, none⟩) h2 hS]; exact h3, by rw [hu.cell (p := ⟨b, off + i * 3 + 1, none⟩) h2 hS]; exact h4, by rw [hu.cell (p := ⟨b, off + i * 3 + 2, none⟩) h2 hS]; exact h5⟩, h.tm⟩

theorem build_big7 : ∀ (rs : List R), rs.length * 7 ≤ (build rs).length
  | [] => by simp [build]
  | r :: rs => by
    have h1 := build_big7 rs
    have hp := encR_pos r
    have hl : (build (r :: rs)).length = (encR r).length + (build rs).length := by show (encR r ++ build rs).length = _; rw [List.length_append]
    rw [hl, List.length_cons]
    omega
/-- The loop's relation. -/
structure CuGo (w : World) (g G : Nat) (s : ByteArray) (a : Option Addr) (c : Nat) (rs : List R) (n er : Nat) (wr : World) (k i : Nat) : Prop where
  le : i ≤ rs.length
  cur : CurC wr g s k i
  new : Below w.heap.size w wr
  got : At wr G [.slice a rs.length c, .int .i64 n, .int .i64 er]
  row : RowR wr a rs
  size : k ≤ s.size
  rest : ∃ v, parse (s.data.toList.drop k) = (rs.drop i, v, er) ∧ k + v = n

set_option maxRecDepth 100000 in
set_option maxHeartbeats 8000000 in
theorem walk_CursorGoes (w : World) (a0 : ByteArray) (w0 : a0.size ≤ maxLen) :
    Calls Try.prog 3 #[.string a0] w fun e w' => e = .returned (.bool true) ∧ Below w.heap.size w w' := by
  by_cases hbig : 1000 < a0.size
  · go_enter Try.func3, Try.ntmps3
    go_wp2_with (first | (go_at_call 5; refine (speaks21 _).mono ?_; rintro e w2 ⟨rfl, b2⟩))
    go_ret
    exact ⟨rfl, b2⟩
  have HN := fun w => Lib.hid (cu_new a0 w (by omega))
  have hr := fun w => ref_parse a0 w (by omega)
  obtain ⟨s1, s2, s3, s4, s5⟩ := parse_spec _ a0.data.toList (Nat.le_refl _)
  obtain ⟨rs, n, er, hf⟩ : ∃ (rs : List R) (n er : Nat), parse a0.data.toList = (rs, n, er) := ⟨_, _, _, rfl⟩
  have hla : a0.data.toList.length = a0.size := by simp
  rw [hf] at hr s1 s2 s3
  simp only at s1 s2 s3
  rw [hla] at s3
  have hrl : rs.length ≤ 1000 := by
    have := (build_big7 rs)
    rw [s2, List.length_take] at this
    omega
  have hrest : ∃ v, parse (a0.data.toList.drop 0) = (rs.drop 0, v, er) ∧ 0 + v = n := ⟨n, hf, Nat.zero_add n⟩
  have HR := Lib.hid hr
  have HF := Lib.hid hrest
  clear hr s1 s2 s4 s5 hf hla hrest
  go_enter Try.func3, Try.ntmps3
  go_wp2_with (first | (go_at_call 5; refine (speaks21 _).mono ?_; rintro e w2 ⟨rfl, b2⟩) | (go_at_call 6; (with_reducible refine (HN _).out.mono ?_); rintro e w3 ⟨g, rfl, hg, hc3, b3⟩; have hb3 := on_below b2 b3) | (go_at_call 7; refine (HR.out _).mono ?_; rintro e w4 ⟨a, c, rfl, r4, b4, fr4⟩; have hc4 := hc3.on b4; have hb4 := on_below hb3 b4))
  have hG0 := At.alloc w4 [.slice a rs.length c, .int .i64 n, .int .i64 er] 27
  have hI : CuGo w g w4.heap.size a0 a c rs n er (w4.alloc (.cells #[.slice a rs.length c, .int .i64 n, .int .i64 er] 27)) 0 0 :=
    ⟨Nat.zero_le _, hc4.made _, hb4.alloc hb4.size _, hG0, r4.on ((Below.refl _ w4).alloc (Nat.le_refl _) _), Nat.zero_le _, HF.out⟩
  have hGg : w4.heap.size ≠ g := Nat.ne_of_gt hc4.lt
  have hag : ∀ q, a = some q → ¬ q.block = g := fun q e => by have := fr4 q e; have := hc3.lt; omega
  have hgw : w.heap.size ≤ g := Nat.le_trans b2.size hg
  generalize w4.heap.size = G at *
  have HAG := Lib.hid hag
  have HI := Lib.hid hI
  clear hI hag HF fr4 r4 hc4 hc3 hG0 HR HN
  go_loopw [5, 6] (fun kv iv wr => ∃ k i : Nat, kv = .int .i64 k ∧ iv = .int .i64 i ∧ CuGo w g G a0 a c rs n er wr k i) (fun _ iv _ => rs.length + 1 - (intOf iv).toNat)
  case atStart => exact ⟨0, 0, rfl, rfl, HI.out⟩
  case round =>
    obtain ⟨k, i, rfl, rfl, hI⟩ := hrel
    clear HI
    obtain ⟨v, hp, hv⟩ := hI.rest
    have hil := hI.le
    have hks := hI.size
    by_cases hlt : i < rs.length
    · have hd : rs.drop i = rs[i] :: rs.drop (i + 1) := List.drop_eq_getElem_cons hlt
      obtain ⟨b, o, ha, hbl, p0, p1, p2⟩ := hI.row.at_ i hlt
      subst ha
      rw [hd] at hp
      obtain ⟨v', f1, d1, e1, l1, c1, a1, o1⟩ := parse_step hp
      have hle : k + (encR rs[i]).length ≤ a0.size := by
        rw [List.length_drop, Array.length_toList] at l1
        have : a0.data.size = a0.size := rfl
        omega
      rw [List.drop_drop] at d1
      have hrest : ∃ v, parse (a0.data.toList.drop (k + (encR rs[i]).length)) = (rs.drop (i + 1), v, er) ∧ (k + (encR rs[i]).length) + v = n := ⟨v', d1, by omega⟩
      have hel : ((i : Int) == rs.length) = false := by rw [beq_eq_false_iff_ne]; omega
      have HA := fun w h => Lib.hid (cu_ahead_is g a0 k i w 0 h hks (by omega) (by rw [a1]; rfl))
      have HE := fun w h => Lib.hid (cu_err_is g a0 k i w 0 h hks (by omega) (by rw [c1]; rfl))
      have HX := fun w h => Lib.hid (cu_next g a0 k i _ _ w h hks (by omega) (by omega) f1)
      have hen := enc_len rs[i].1 rs[i].2.1 rs[i].2.2
      have hRE := fun w => Lib.hid (ref_encode rs[i].1 rs[i].2.1 (bstr rs[i].2.2) w (err_kind o1.1) o1.2 (by rw [size_bstr]; have : (encR rs[i]).length = _ := hen; have := body_len rs[i].1 rs[i].2.1 rs[i].2.2; omega))
      have hsz : (bstr (encR rs[i])).size = (encR rs[i]).length := size_bstr _
      rw [show enc rs[i].1 rs[i].2.1 (bstr rs[i].2.2).data.toList = encR rs[i] from rfl] at hRE
      have HRI := fun w' (h : RowR w' (some ⟨b, o, none⟩) rs) => Lib.hid (h.cell i hlt)
      have HRS := Lib.hid hrest
      have HII := Lib.hid hI
      clear hrest hen d1 e1 l1 c1 a1 o1 f1 hp hd hI
      generalize encR rs[i] = E at *
      generalize rs[i] = r at *
      obtain ⟨rk, rt, rx⟩ := r
      simp only at p0 p1 p2 hRE
      have hC := HII.out.cur
      obtain ⟨hG1, q0, _, q1, _, q2, _⟩ := HII.out.got.three
      have HR := Lib.hid HII.out.row
      have HG := Lib.hid HII.out.got
      have HB := Lib.hid HII.out.new
      have n1 : ((rk : Int) != rk) = false := by simp
      have n2 : ((rt : Int) != rt) = false := by simp
      go_wp2_with (first | (go_at_call 8; (with_reducible refine (HA _ hC).out.mono ?_); rintro e w5 ⟨rfl, b5⟩; have hC5 := hC.on b5) | (go_at_call 9; (with_reducible refine (HE _ hC5).out.mono ?_); rintro e w6 ⟨rfl, b6⟩; have hC6 := hC5.on b6) | (go_at_call 10; (with_reducible refine (cu_at _ _ _ _ _ hC6).mono ?_); rintro e w7 ⟨rfl, rfl⟩) | (go_at_call 11; (with_reducible refine (cu_count _ _ _ _ _ hC6).mono ?_); rintro e w8 ⟨rfl, rfl⟩) | (go_at_call 12; (with_reducible refine (HX _ hC6).out.mono ?_); rintro e w9 ⟨rfl, hC9, u9⟩; have hG9 := ((HG.out.on b5).on b6).upd u9 hGg; have hR9 := ((HR.out.on b5).on b6).upd u9 HAG.out; have hB9 := (on_below (on_below HB.out b5) b6).upd u9 (on_below (on_below HB.out b5) b6).size (fun j _ (e : j = g) => e ▸ hgw); obtain ⟨hG19, q0', _, q1', _, q2', _⟩ := hG9.three))
      have hO := (Below.refl w9.heap.size w9).alloc (Nat.le_refl _) (.cells #[.int .i64 rk, .int .i64 rt, .string (bstr rx)] 33)
      have hG10 := Lib.hid (hG9.on hO)
      have hR10 := Lib.hid (hR9.on hO)
      have hC10 := Lib.hid (hC9.on hO)
      have hB10 := Lib.hid (on_below hB9 hO)
      obtain ⟨hz, z0, _, z1, _, z2, _⟩ := (At.alloc w9 [.int .i64 rk, .int .i64 rt, .string (bstr rx)] 33).three
      obtain ⟨hG11, g0, _, g1, _, g2, _⟩ := hG10.out.three
      obtain ⟨hbl2, y0, y1, y2⟩ := (HRI _ hR10.out).out
      clear hC hC5 hC6 hC9 hG9 hR9 hB9 hO p0 p1 p2 q0 q1 q2 q0' q1' q2' HRI
      go_quiet (fail)
      go_wp2_with (first | (go_at_call 13; (with_reducible refine (hRE _).out.mono ?_); rintro e w11 ⟨rfl, b11⟩))
      have hq := on_below (below_drewN (Below.refl _ (w9.alloc (.cells #[.int .i64 rk, .int .i64 rt, .string (bstr rx)] 33))) nq) b11
      exact ⟨⟨k + E.length, i + 1, by go_num, by go_num, hlt, hC10.out.on hq, on_below hB10.out hq, hG10.out.on hq, hR10.out.on hq, hle, HRS.out⟩, by simp [intOf]; omega⟩
    · obtain rfl : i = rs.length := by omega
      rw [List.drop_length] at hp
      obtain ⟨t1, t2, t3, t4, t5⟩ := parse_stop hp
      have hkn : k = n := by omega
      subst hkn
      have hel : ((rs.length : Int) == rs.length) = true := by simp
      have HXN := fun w h => Lib.hid (cu_none g a0 k rs.length w h hks (by omega) t5)
      have HE := fun w h => Lib.hid (cu_err_is g a0 k rs.length w er h hks (by omega) (by rw [t2]))
      have HAZ := fun w h z hz => Lib.hid (cu_ahead_is g a0 k rs.length w z h hks (by omega) hz)
      rw [t3] at HAZ
      have HII := Lib.hid hI
      clear t1 t2 t3 t4 t5 hp hI hrl
      have hC := HII.out.cur
      obtain ⟨hG1, q0, _, q1, _, q2, _⟩ := HII.out.got.three
      have HG := Lib.hid HII.out.got
      have HB := Lib.hid HII.out.new
      generalize rs.length = m at *
      by_cases h0 : er = 0
      · subst h0
        have HA := fun w h => HAZ w h 1 (by rw [if_pos rfl]; rfl)
        clear HAZ
        go_wp2_with (first | (go_at_call 8; (with_reducible refine (HA _ hC).out.mono ?_); rintro e w5 ⟨rfl, b5⟩; have hC5 := hC.on b5) | (go_at_call 9; (with_reducible refine (HE _ hC5).out.mono ?_); rintro e w6 ⟨rfl, b6⟩; have hC6 := hC5.on b6) | (go_at_call 10; (with_reducible refine (cu_at _ _ _ _ _ hC6).mono ?_); rintro e w7 ⟨rfl, rfl⟩) | (go_at_call 11; (with_reducible refine (cu_count _ _ _ _ _ hC6).mono ?_); rintro e w8 ⟨rfl, rfl⟩) | (go_at_call 12; (with_reducible refine (HXN _ hC6).out.mono ?_); rintro e w9 ⟨rfl, b9⟩; have hC9 := hC6.on b9; have hG9 := ((HG.out.on b5).on b6).on b9; have hB9 := on_below (on_below (on_below HB.out b5) b6) b9; obtain ⟨hG19, q0', _, q1', _, q2', _⟩ := hG9.three))
        have hO := (Below.refl w9.heap.size w9).alloc (Nat.le_refl _) (.cells #[.int .i64 zr.1, .int .i64 zr.2.1, .string (bstr zr.2.2)] 33)
        have hG10 := Lib.hid (hG9.on hO)
        have hC10 := Lib.hid (hC9.on hO)
        have hB10 := Lib.hid (on_below hB9 hO)
        have hZ10 := Lib.hid (At.alloc w9 [.int .i64 zr.1, .int .i64 zr.2.1, .string (bstr zr.2.2)] 33)
        generalize w9.alloc (.cells #[.int .i64 zr.1, .int .i64 zr.2.1, .string (bstr zr.2.2)] 33) = wA at *
        generalize w9.heap.size = Z at *
        obtain ⟨hz, z0, _, z1, _, z2, _⟩ := hZ10.out.three
        obtain ⟨hG11, g0, _, g1, _, g2, _⟩ := hG10.out.three
        have hC := hC10.out
        clear hC5 hC6 hC9 hG9 hB9 hO q0 q1 q2 q0' q1' q2'
        go_cut [2] (fun v wx => v = .bool true ∧ Below wA.heap.size wA wx)
        case first =>
          go_region_held3 (fun wx => wx.cell? ⟨Z, 0, none⟩ = some (.int .i64 0) ∧ wx.cell? ⟨Z, 1, none⟩ = some (.int .i64 0) ∧ wx.cell? ⟨Z, 2, none⟩ = some (.string ⟨#[]⟩) ∧ wx.cell? ⟨G, 1, none⟩ = some (.int .i64 k)) (first | exact ⟨z0, z1, z2, g1⟩ | exact ⟨x0, x1, x2, x3⟩ | fail) (first | (go_at_call 10; (with_reducible refine (cu_at _ _ _ _ _ hC10.out.drew).mono ?_); rintro e w7 ⟨rfl, rfl⟩) | (go_at_call 11; (with_reducible refine (cu_count _ _ _ _ _ hC10.out.drew).mono ?_); rintro e w8 ⟨rfl, rfl⟩) | (go_at_call 8; (with_reducible refine (HA _ hC10.out.drew).out.mono ?_); rintro e wB ⟨rfl, bB⟩; obtain ⟨_, x0, _, x1, _, x2, _⟩ := (hZ10.out.drew.on bB).three; obtain ⟨_, _, _, x3, _, _, _⟩ := (hG10.out.drew.on bB).three))
          all_goals (go_wp2_with fail; go_meet; exact ⟨rfl, on_below (Below.refl _ _).drew bB⟩)
        case rest =>
          obtain ⟨rfl, hbc⟩ := hcut
          go_wp2
          go_ret
          exact ⟨rfl, on_below hB10.out hbc⟩
      · have hz1 : ((er : Int) == 0) = false := by rw [beq_eq_false_iff_ne]; omega
        have hz2 : ((er : Int) != 0) = true := by rw [bne_iff_ne]; omega
        have hz3 : ((er : Int) != er) = false := by simp
        have HA := fun w h => HAZ w h 2 (by rw [if_neg h0]; rfl)
        clear HAZ
        go_wp2_with (first | (go_at_call 8; (with_reducible refine (HA _ hC).out.mono ?_); rintro e w5 ⟨rfl, b5⟩; have hC5 := hC.on b5) | (go_at_call 9; (with_reducible refine (HE _ hC5).out.mono ?_); rintro e w6 ⟨rfl, b6⟩; have hC6 := hC5.on b6) | (go_at_call 10; (with_reducible refine (cu_at _ _ _ _ _ hC6).mono ?_); rintro e w7 ⟨rfl, rfl⟩) | (go_at_call 11; (with_reducible refine (cu_count _ _ _ _ _ hC6).mono ?_); rintro e w8 ⟨rfl, rfl⟩) | (go_at_call 12; (with_reducible refine (HXN _ hC6).out.mono ?_); rintro e w9 ⟨rfl, b9⟩; have hC9 := hC6.on b9; have hG9 := ((HG.out.on b5).on b6).on b9; have hB9 := on_below (on_below (on_below HB.out b5) b6) b9; obtain ⟨hG19, q0', _, q1', _, q2', _⟩ := hG9.three))
        have hO := (Below.refl w9.heap.size w9).alloc (Nat.le_refl _) (.cells #[.int .i64 zr.1, .int .i64 zr.2.1, .string (bstr zr.2.2)] 33)
        have hG10 := Lib.hid (hG9.on hO)
        have hC10 := Lib.hid (hC9.on hO)
        have hB10 := Lib.hid (on_below hB9 hO)
        have hZ10 := Lib.hid (At.alloc w9 [.int .i64 zr.1, .int .i64 zr.2.1, .string (bstr zr.2.2)] 33)
        generalize w9.alloc (.cells #[.int .i64 zr.1, .int .i64 zr.2.1, .string (bstr zr.2.2)] 33) = wA at *
        generalize w9.heap.size = Z at *
        obtain ⟨hz, z0, _, z1, _, z2, _⟩ := hZ10.out.three
        obtain ⟨hG11, g0, _, g1, _, g2, _⟩ := hG10.out.three
        have hC := hC10.out
        clear hC5 hC6 hC9 hG9 hB9 hO q0 q1 q2 q0' q1' q2'
        go_cut [2] (fun v wx => v = .bool true ∧ Below wA.heap.size wA wx)
        case first =>
          go_region_held3 (fun wx => wx.cell? ⟨Z, 0, none⟩ = some (.int .i64 0) ∧ wx.cell? ⟨Z, 1, none⟩ = some (.int .i64 0) ∧ wx.cell? ⟨Z, 2, none⟩ = some (.string ⟨#[]⟩) ∧ wx.cell? ⟨G, 1, none⟩ = some (.int .i64 k)) (first | exact ⟨z0, z1, z2, g1⟩ | exact ⟨x0, x1, x2, x3⟩ | fail) (first | (go_at_call 10; (with_reducible refine (cu_at _ _ _ _ _ hC10.out.drew).mono ?_); rintro e w7 ⟨rfl, rfl⟩) | (go_at_call 11; (with_reducible refine (cu_count _ _ _ _ _ hC10.out.drew).mono ?_); rintro e w8 ⟨rfl, rfl⟩) | (go_at_call 8; (with_reducible refine (HA _ hC10.out.drew).out.mono ?_); rintro e wB ⟨rfl, bB⟩; obtain ⟨_, x0, _, x1, _, x2, _⟩ := (hZ10.out.drew.on bB).three; obtain ⟨_, _, _, x3, _, _, _⟩ := (hG10.out.drew.on bB).three))
          all_goals (go_wp2_with fail; go_meet; exact ⟨rfl, on_below (Below.refl _ _).drew bB⟩)
        case rest =>
          obtain ⟨rfl, hbc⟩ := hcut
          go_wp2
          go_ret
          exact ⟨rfl, on_below hB10.out hbc⟩
end Go.Proofs.Ytcigklninmddaaa
