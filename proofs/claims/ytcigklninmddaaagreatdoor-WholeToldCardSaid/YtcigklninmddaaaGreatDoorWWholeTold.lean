/- The walk of the law WholeTold. -/
import Derived.Test.YtcigklninmddaaaGreatDoorTold2
import Derived.Test.YtcigklninmddaaaGreatDoorWEventBack
import Derived.Test.YtcigklninmddaaaGreatDoorKLogR
namespace Go.Proofs.YtcigklninmddaaaGreatDoor
set_option maxRecDepth 4000
open Go.ChangeShapes Go.WideShapes Go.ChangeAt Go.RowKit
open PWord PQuote PSign PEv PVar PCrc PFrame
open Go.Lib (itoa)
set_option linter.unusedVariables false
set_option linter.unusedSimpArgs false

theorem row_oneT (w : World) (v : Ev) : RowE (w.alloc (.cells #[evv v] 29)) (some ⟨w.heap.size, 0, none⟩) [v] := ⟨fun i hi => by
  obtain rfl : i = 0 := by simp at hi; exact hi
  exact ⟨_, 0, rfl, by simp, (At.alloc w [evv v] 29).one.2.1⟩⟩
/-- One event, told. -/
theorem text_one (v : Ev) (hv : v.ok) (hx : (etext v).length ≤ 4096) (w : World) (he : EnvE w) :
    Calls Tryz.prog 11 #[.slice (some ⟨w.heap.size, 0, none⟩) 1 1] (w.alloc (.cells #[evv v] 29)) fun e w' => e = .returned (.string (bstr (eline v ++ [10]))) ∧ Below w.heap.size w w' := by
  have hb : Below w.heap.size w (w.alloc (.cells #[evv v] 29)) := (Below.refl _ _).alloc (Nat.le_refl _) _
  have hl := eline_len v hv
  have h := ev_text (some ⟨w.heap.size, 0, none⟩) 1 1 [v] _ (he.on hb) (row_oneT w v) rfl (by decide) (by intro y hy; rw [List.mem_singleton] at hy; subst hy; exact ⟨hv, hx⟩) (by
    show (eline v ++ [10] ++ []).length ≤ _
    simp only [List.length_append, List.length_cons, List.length_nil]; omega)
  rw [show etexts [v] = eline v ++ [10] by simp [etexts]] at h
  exact h.mono fun e w2 ⟨h1, h2⟩ => ⟨h1, hb.trans (h2.mono (by simp))⟩
theorem text_one' (v : Ev) (hv : v.ok) (hx : (etext v).length ≤ 4096) (w : World) (o : Obj) (he : EnvE (w.alloc o)) :
    Calls Tryz.prog 11 #[.slice (some ⟨w.heap.size + 1, 0, none⟩) 1 1] ((w.alloc o).alloc (.cells #[evv v] 29)) fun e w' => e = .returned (.string (bstr (eline v ++ [10]))) ∧ Below w.heap.size w w' := by
  have h := text_one v hv hx (w.alloc o) he
  rw [World.size_alloc] at h
  exact h.mono fun e w2 ⟨h1, h2⟩ => ⟨h1, ((Below.refl w.heap.size w).alloc (Nat.le_refl _) o).trans (h2.mono (by omega))⟩
theorem line_12 : eline (.fault 1 2) ++ [10] = [102, 97, 117, 108, 116, 32, 49, 32, 50, 10] := by
  rw [eline_fault, show itoa 1 = [49] from itoa_one 1 (by omega), show itoa 2 = [50] from itoa_one 2 (by omega)]
  rfl

theorem build_bigT : ∀ (rs : List R), rs.length * 7 ≤ (build rs).length ∧ ∀ r ∈ rs, r.2.2.length ≤ (build rs).length
  | [] => by simp [build]
  | r :: rs => by
    obtain ⟨h1, h2⟩ := build_bigT rs
    have hp := encR_pos r
    have hl : (build (r :: rs)).length = (encR r).length + (build rs).length := by show (encR r ++ build rs).length = _; rw [List.length_append]
    refine ⟨by rw [hl, List.length_cons]; omega, fun x hx => ?_⟩
    rcases List.mem_cons.1 hx with rfl | hx
    · have : (encR x).length = _ := PFrame.enc_len x.1 x.2.1 x.2.2
      have hb := body_len x.1 x.2.1 x.2.2
      omega
    · have := h2 x hx
      omega
theorem info_ifcT : (Tryz.prog.info? 29).map (fun i => (i.zero, i.size, i.bytes)) = some (some .nilIface, 1, 16) := by kernel_rfl
theorem els_at {B : Nat} {w : World} {a : Option Addr} {M c : Nat} {part : Int} {rs : List R} (h : Sl B w 5 (.slice a M c) M (vcells (rs.map (elOf part)))) (hM : rs.length = M) (p : Nat) (hp : p < rs.length) :
    ∃ b off, a = some ⟨b, off, none⟩ ∧ b < w.heap.size ∧ w.cell? ⟨b, off + p * 5, none⟩ = some (.int .i64 part) ∧ w.cell? ⟨b, off + p * 5 + 1, none⟩ = some (.int .i64 rs[p].1) ∧ w.cell? ⟨b, off + p * 5 + 2, none⟩ = some (.int .i64 rs[p].2.1) ∧ w.cell? ⟨b, off + p * 5 + 3, none⟩ = some (.string (bstr rs[p].2.2)) ∧ w.cell? ⟨b, off + p * 5 + 4, none⟩ = some (.bool false) := by
  have hS : sel 0 (rs.map (elOf part)) = rs.map (elOf part) := by rw [sel_els, if_pos rfl]
  have hl : (rs.map (elOf part)).length = M := by rw [List.length_map]; exact hM
  have h' : Sl B w 5 (.slice a M c) (sel 0 (rs.map (elOf part))).length (vcells (sel 0 (rs.map (elOf part)))) := by rw [hS, hl]; exact h
  obtain ⟨h1, b, off, cap, h2, h3, h4, h5⟩ := sel_at sz0 (by decide) h' p (by rw [hl]; omega) (by rw [List.getElem_map]; rfl)
  rw [hS, hl] at h2
  cases h2
  have ht : (sel 0 ((rs.map (elOf part)).take p)).length = p := by rw [← List.map_take, sel_els, if_pos rfl, List.length_map, List.length_take]; omega
  rw [ht, List.getElem_map] at h5
  exact ⟨b, off, rfl, h4, h5 0 (by decide), h5 1 (by decide), h5 2 (by decide), h5 3 (by decide), h5 4 (by decide)⟩
theorem fault_at {B : Nat} {w : World} {a : Option Addr} {c : Nat} {part : Int} {er : Int} (h : Sl B w 2 (.slice a 1 c) 1 (vcells [.fault part er])) :
    ∃ b off, a = some ⟨b, off, none⟩ ∧ b < w.heap.size ∧ w.cell? ⟨b, off, none⟩ = some (.int .i64 part) ∧ w.cell? ⟨b, off + 1, none⟩ = some (.int .i64 er) := by
  rcases h.2 with ⟨_, h0⟩ | ⟨g, off, cap, hv, hb, hg, h1, h2, h3, h4⟩
  · cases h0
  · cases hv
    exact ⟨g, off, rfl, hg, h3 0 (by decide), h3 1 (by decide)⟩
/-- The first loop's relation. -/
structure ToldI (w : World) (b g : Nat) (s : ByteArray) (part : Int) (rs : List R) (n er : Nat) (wr : World) (k i : Nat) : Prop where
  le : i ≤ rs.length
  cur : CurC wr g s k i
  kind : KindAt wr g 83
  new : Below w.heap.size w wr
  bld : Bld b b (etexts ((rs.take i).map (elOf part))) wr
  size : k ≤ s.size
  bsz : b ≤ wr.heap.size
  rest : ∃ v, parse (s.data.toList.drop k) = (rs.drop i, v, er) ∧ k + v = n

set_option maxRecDepth 100000 in
set_option maxHeartbeats 8000000 in
theorem walk_WholeTold (w : World) (he : EnvE w) (a0 : ByteArray) (w0 : a0.size ≤ maxLen) (a1 : Int) (w1 : (Lit.int .i64 a1).wf = true) :
    Calls Tryz.prog 4 #[.string a0, .int .i64 a1] w fun e w' => e = .returned (.bool true) ∧ Below w.heap.size w w' := by
  have hin := bounds_i64 w1
  have hin : in64 a1 := hin
  clear w1
  have ht0 := text_one (.fault 1 2) ⟨⟨by decide, by decide⟩, ⟨by decide, by decide⟩⟩ (by decide) w he
  rw [line_12] at ht0
  have HT0 : Hid (Calls Tryz.prog 11 #[.slice (some ⟨w.heap.size, 0, none⟩) 1 1] (w.alloc (.cells #[.iface 40 (.agg #[.int .i64 1, .int .i64 2])] 29)) fun e w' => e = .returned (.string ⟨#[102, 97, 117, 108, 116, 32, 49, 32, 50, 10]⟩) ∧ Below w.heap.size w w') := ht0
  have HN0 := fun w => Lib.hid (cu_new ⟨#[]⟩ w (by decide))
  clear ht0
  by_cases hbig : 500 < a0.size
  · go_enter Tryz.func4, Tryz.ntmps4
    go_wp2_with (first | (go_at_call 11; refine HT0.out.mono ?_; rintro e w2 ⟨rfl, b2⟩) | (go_at_call 12; (with_reducible refine (HN0 _).out.mono ?_); rintro e w3 ⟨g, rfl, hg, hc3, b3, k3⟩))
    go_ret
    exact ⟨rfl, on_below b2 b3⟩
  have HN := fun w => Lib.hid (cu_new a0 w (by omega))
  have hr := fun w => ref_parse a0 w (by omega)
  obtain ⟨s1, s2, s3, s4, s5⟩ := parse_spec _ a0.data.toList (Nat.le_refl _)
  obtain ⟨rs, n, er, hf⟩ : ∃ (rs : List R) (n er : Nat), parse a0.data.toList = (rs, n, er) := ⟨_, _, _, rfl⟩
  have hla : a0.data.toList.length = a0.size := by simp
  rw [hf] at hr s1 s2 s3 s5
  simp only at s1 s2 s3 s5
  rw [hla] at s3
  have hbl : (build rs).length ≤ 500 := by rw [s2, List.length_take]; omega
  have hrest : ∃ v, parse (a0.data.toList.drop 0) = (rs.drop 0, v, er) ∧ 0 + v = n := ⟨n, hf, Nat.zero_add n⟩
  have HRP := Lib.hid hr
  have HF := Lib.hid hrest
  have HOK := Lib.hid s1
  have hvo5 := Lib.hid s5
  obtain ⟨hrl7, hrx⟩ := build_bigT rs
  have hrl : rs.length ≤ 71 := by omega
  have hrx2 : ∀ r ∈ rs, okR r ∧ r.2.2.length ≤ 500 := fun r hr => ⟨s1 r hr, Nat.le_trans (hrx r hr) hbl⟩
  have hev := evsOf_ok (part := a1) (er := er) hin s5 hrx2
  have hel := els_len hin rs s1
  have HEV := Lib.hid hev
  have HRX := Lib.hid hrx2
  have hel2 : (etexts (rs.map (elOf a1))).length ≤ 13000 := by omega
  have HEL := Lib.hid hel2
  clear hr s1 s2 s4 hf hla hrest hrx hrx2 hev hel hel2 hrl7 hbl
  go_enter Tryz.func4, Tryz.ntmps4
  go_wp2_with (first | (go_at_call 11; refine HT0.out.mono ?_; rintro e w2 ⟨rfl, b2⟩) | (go_at_call 12; (with_reducible refine (HN0 _).out.mono ?_); rintro e w3 ⟨g3, rfl, hg3, hc3, b3, k3⟩; have hb3 := on_below b2 b3; have hz := b_zero w3) | (go_at_call 12; (with_reducible refine (HN _).out.mono ?_); rintro e w4 ⟨g, rfl, hg, hc4, b4, k4⟩))
  have hI : ToldI w w3.heap.size g a0 a1 rs n er w4 0 0 := ⟨Nat.zero_le _, hc4, k4, on_below (hb3.alloc hb3.size _) b4, bld_on hz b4, Nat.zero_le _, by have := b4.size; simp at this; omega, HF.out⟩
  have hbg : w3.heap.size < g := by simp at hg; omega
  have hwb : w.heap.size ≤ w3.heap.size := hb3.size
  generalize w3.heap.size = b at *
  have HI := Lib.hid hI
  clear hI hc4 k4 hz hb3 b4 hg hc3 k3 hg3 b3 b2 HF HN HN0 HT0
  go_loopg [] rs.length (fun m wr => ∃ k i : Nat, m + i = rs.length ∧ ToldI w b g a0 a1 rs n er wr k i)
  case atStart => exact ⟨0, 0, rfl, HI.out⟩
  case round =>
    obtain ⟨k, i, hmi, hI⟩ := hrel
    clear HI
    obtain ⟨v, hp, hv⟩ := hI.rest
    have hks := hI.size
    have hil := hI.le
    by_cases hlt : i < rs.length
    · have hd : rs.drop i = rs[i] :: rs.drop (i + 1) := List.drop_eq_getElem_cons hlt
      rw [hd] at hp
      obtain ⟨v', f1, d1, e1, l1, c1, a1', o1⟩ := parse_step hp
      have hle : k + (encR rs[i]).length ≤ a0.size := by
        rw [List.length_drop, Array.length_toList] at l1
        have : a0.data.size = a0.size := rfl
        omega
      rw [List.drop_drop] at d1
      have hrest : ∃ v, parse (a0.data.toList.drop (k + (encR rs[i]).length)) = (rs.drop (i + 1), v, er) ∧ (k + (encR rs[i]).length) + v = n := ⟨v', d1, by omega⟩
      have HA := fun w h => Lib.hid (cu_ahead_is g a0 k i w 0 h hks (by omega) (by rw [a1']; rfl))
      have HX := fun w h => Lib.hid (cu_next g a0 k i _ _ w h hks (by omega) (by omega) f1)
      obtain ⟨hvo, hvx⟩ := HEV.out (elOf a1 rs[i]) (List.mem_append_left _ (List.mem_map_of_mem (List.getElem_mem hlt)))
      have htk : (rs.take (i + 1)).map (elOf a1) = (rs.take i).map (elOf a1) ++ [elOf a1 rs[i]] := by rw [List.take_succ_eq_append_getElem hlt, List.map_append]; rfl
      have HTK := Lib.hid (show etexts ((rs.take (i + 1)).map (elOf a1)) = etexts ((rs.take i).map (elOf a1)) ++ (eline (elOf a1 rs[i]) ++ [10]) by rw [htk, etexts_append]; simp [etexts])
      have hpre := etexts_len (rs.map (elOf a1)) i
      rw [← List.map_take] at hpre
      have hE0 : (etexts ((rs.take i).map (elOf a1))).length ≤ 13000 := Nat.le_trans hpre HEL.out
      have hll := eline_len _ hvo
      have HTX : ∀ w' o, EnvE (w'.alloc o) → Hid (Calls Tryz.prog 11 #[.slice (some ⟨w'.heap.size + 1, 0, none⟩) 1 1] ((w'.alloc o).alloc (.cells #[.iface 55 (.agg #[.int .i64 a1, .int .i64 rs[i].1, .int .i64 rs[i].2.1, .string (bstr rs[i].2.2), .bool false])] 29)) fun e w2 => e = .returned (.string (bstr (eline (elOf a1 rs[i]) ++ [10]))) ∧ Below w'.heap.size w' w2) := fun w' o h => text_one' (elOf a1 rs[i]) hvo (by omega) w' o h
      have HW := fun w' h hB => Lib.hid (b_write b b (etexts ((rs.take i).map (elOf a1))) (bstr (eline (elOf a1 rs[i]) ++ [10])) w' h (by rw [bstr_len, List.length_append]; show _ + (_ + 1) ≤ _; omega) hB)
      rw [show (bstr (eline (elOf a1 rs[i]) ++ [10])).data.toList = eline (elOf a1 rs[i]) ++ [10] from rfl] at HW
      have HRS := Lib.hid hrest
      have hBl := hI.bld
      have hC := hI.cur
      have hK := hI.kind
      have hb := hI.new
      have hsz := hI.bsz
      clear hrest d1 e1 l1 c1 a1' o1 f1 hp hd hI hpre hE0 hll hvo hvx htk

      generalize etexts ((rs.take i).map (elOf a1)) = E0 at *
      generalize (eline (elOf a1 rs[i]) ++ [10]) = L at *
      generalize encR rs[i] = EN at *
      generalize rs[i] = r at *
      obtain ⟨rk, rt, rx⟩ := r
      simp only at HTX
      go_wp2_with (first | (go_at_call 13; (with_reducible refine (HA _ hC).out.mono ?_); rintro e w5 ⟨rfl, b5⟩; have hC5 := hC.on b5; have hK5 := hK.on b5; have hBl5 := bld_on hBl b5; have hb5 := on_below hb b5; have hsz5 := Nat.le_trans hsz b5.size) | (go_at_call 14; (with_reducible refine (cu_count _ _ _ _ _ hC5).mono ?_); rintro e w5' ⟨rfl, rfl⟩) | (go_at_call 15; (with_reducible refine (HX _ hC5).out.mono ?_); rintro e w6 ⟨rfl, hC6, u6, kd6⟩; have hK6 := kd6 _ hK5; have hBl6 := bld_upd hBl5 u6 hK5 (by decide) (by decide); have hb6 := hb5.upd u6 hb5.size (fun j _ (e : j = g) => e ▸ Nat.le_trans hwb (Nat.le_of_lt hbg)); have hsz6 := Nat.le_trans hsz5 u6.size; have he6 := he.on (hb6.alloc hb6.size (.cells #[.int .i64 rk, .int .i64 rt, .string (bstr rx)] 23))) | (go_at_call 11; (with_reducible refine (HTX _ _ he6).out.mono ?_); rintro e w7 ⟨rfl, b7⟩; have hC7 := hC6.on b7; have hK7 := hK6.on b7; have hBl7 := bld_on hBl6 b7; have hb7 := on_below hb6 b7; have hsz7 := Nat.le_trans hsz6 b7.size) | (go_at_call 16; (with_reducible refine (HW _ hBl7 hsz7).out.mono ?_); rintro e w8 ⟨rfl, hon8⟩))
      obtain ⟨hBl8, h8, ho8⟩ := hon8
      obtain ⟨hC8, hK8⟩ := hC7.kept hK7 ho8 (Nat.ne_of_gt hbg)
      go_roundg (gk - 1)
      case measure => omega
      case rel => exact ⟨k + EN.length, i + 1, by omega, hlt, hC8, hK8, hb7.trans (h8.mono hwb), by rw [HTK.out]; exact hBl8, hle, Nat.le_trans hsz7 h8.size, HRS.out⟩
    · obtain rfl : i = rs.length := by omega
      rw [List.drop_length] at hp
      obtain ⟨e1, e2, e3, e4, -⟩ := parse_stop hp
      have hC := hI.cur
      have hb := hI.new
      have hBl := hI.bld
      rw [List.take_length] at hBl
      have HTX0 := True.intro
      clear hI HRX hp
      by_cases her : er = 0
      · skip
        subst her
        have HA := fun w h => Lib.hid (cu_ahead_is g a0 k rs.length w 1 h hks (by omega) (by rw [e3]; rfl))
        have hEND := endOf_none a1
        have hETX : etexts (rs.map (elOf a1)) = etexts (evsOf a1 rs 0) := by unfold evsOf; rw [hEND, List.append_nil]
        have hS0 := sel0_evsOf a1 rs 0
        have hS2 := sel2_evsOf a1 rs 0
        rw [hEND] at hS2
        have hEP := evsOf_part a1 rs 0
        have hLN : (evsOf a1 rs 0).length = rs.length := by unfold evsOf; rw [hEND, List.append_nil, List.length_map]
        have hLT : (etexts (evsOf a1 rs 0)).length ≤ 90000 := by rw [← hETX]; have := HEL.out; omega
        have hNL : etexts (evsOf a1 rs 0) = [] → rs = [] := fun h => by have := etexts_none h; unfold evsOf at this; simpa [hEND] using this
        have HEV' := HEV.out
        rw [hETX] at hBl
        generalize evsOf a1 rs 0 = EVS at *
        generalize hM : rs.length = M at *
        obtain ⟨N, hN⟩ : ∃ N, EVS.length = N := ⟨_, rfl⟩
        have hNM : N = M := by omega
        have HNM := Lib.hid hNM.symm
        have HLN := Lib.hid hN
        have HSL := fun w h => Lib.hid (split_lines EVS (N + 1) (by omega) w h hLT)
        have HRUN := fun (w' : World) (a : Option Addr) (c : Nat) (h1 : N + 1 ≤ c) (h2 : c ≤ 100000) => rows_to (P := Tryz.prog) (a := a) (n := N + 1) (c := c) h1 (by unfold maxLen; omega) Tryz.underlying61 one_cell_e N N rfl (by omega) w'
        have HO1 := fun a c w h => Lib.hid ((of_element a N c EVS w h hN.symm (by omega)).mono fun e w' h => h.p (n := M) hS0 (by rw [List.length_map]; exact hM))
        have HO3 := fun a c w h => Lib.hid ((of_fault a N c EVS w h hN.symm (by omega)).mono fun e w' h => h.p (n := 0) hS2 rfl)
        have HNL := Lib.hid hNL
        have HEP := Lib.hid hEP
        have HE' := Lib.hid HEV'
        have hgt : b < wr.heap.size := by have := hC.1; omega
        clear HEV HEL HTX0 e1 e2 e3 e4 hNL hEP HEV' hS0 hS2 hLT hETX hLN hEND hv hmi hil hlt hNM hN
        go_wp2_with (first | (go_at_call 13; first | ((with_reducible refine (HA _ hC).out.mono ?_); rintro e w5 ⟨rfl, b5⟩; have hC5 := hC.on b5; have hBl5 := bld_on hBl b5; have hb5 := on_below hb b5; have hs5 := b5.size) | ((with_reducible refine (HA _ hC5).out.mono ?_); rintro e w6 ⟨rfl, b6⟩; have hC6 := hC5.on b6; have hBl6 := bld_on hBl5 b6; have hb6 := on_below hb5 b6; have hs6 := Nat.le_trans hs5 b6.size)) | (go_at_call 18; (with_reducible refine (HRP.out _).mono ?_); rintro e w10 ⟨aP, cP, rfl, hrow, b10, hfr⟩; have hbA := b10.alloc b10.size (.cells #[.slice aP M cP, .int .i64 n, .int .i64 0] 59); have hrowA := hrow.on ((Below.refl _ w10).alloc (Nat.le_refl _) (.cells #[.slice aP M cP, .int .i64 n, .int .i64 0] 59)); have hatA := At.alloc w10 [.slice aP M cP, .int .i64 n, .int .i64 0] 59; have hkA := KindAt.alloc w10 #[.slice aP M cP, .int .i64 n, .int .i64 0] 59; have hbB := on_below hb6 hbA) | (go_at_call 20; (with_reducible refine (b_text_row b b _ aP rs w10.heap.size _ 59 w6 _ hBl6 hbA (Nat.le_trans (Nat.le_of_lt hgt) hs6) HNL.out hrowA hfr b10.size (by have := b10.size; omega) hatA hkA (by decide)).mono ?_); rintro e w11 ⟨rfl, b11, hrow11, hat11⟩; have hb11 := hbB.trans (b11.mono hwb)) | (go_at_call 19; (with_reducible refine (HSL _ (he.on hb11).wd).out.mono ?_); rintro e w12 ⟨aL, cL, rfl, hcc, hcm, hLn, b12⟩; have hrun := fun w' => HRUN w' aL cL hcc hcm; have hrow12 := hrow11.on b12; have hat12 := hat11.on b12; have hb12 := on_below hb11 b12))
        clear HRP HRUN HSL HA 
        have h00 : Sl w12.heap.size w12 1 (.slice none 0 0) 0 ((EVS.take 0).map evv) := Sl.nil _ _ _
        obtain ⟨i0, hi, hz0, hz1, hz2⟩ := info_parts info_ifcT
        go_loopw [11, 75] (fun v i wr => ∃ q : Nat, i = .int .i64 q ∧ q ≤ N ∧ Sl w12.heap.size wr 1 v q ((EVS.take q).map evv) ∧ Below w12.heap.size w12 wr) (fun _ i _ => N - (intOf i).toNat)
        case atStart => exact ⟨0, rfl, Nat.zero_le _, h00, Below.refl _ _⟩
        case round =>
          clear h00
          obtain ⟨q, rfl, hq, hsl, hbr⟩ := hrel
          obtain ⟨av, cv, rfl⟩ := hsl.shape
          have hbq := on_below hb12 hbr
          by_cases hqN : q < N
          · have hq1 : q < EVS.length := by rw [HLN.out]; exact hqN
            obtain ⟨bL, oL, rfl, hbl, hcl⟩ := (hLn.on hbr).at_ q hq1
            have HE : Hid (EVS.take (q + 1) = EVS.take q ++ [EVS[q]]) := List.take_succ_eq_append_getElem hq1
            obtain ⟨hvo, hvx⟩ := HE'.out EVS[q] (List.getElem_mem hq1)
            have hpq := HEP.out EVS[q] (List.getElem_mem hq1)
            have HRD := fun w h => Lib.hid (ev_read_line EVS[q] hvo (by omega) w h)
            have HPT := fun w => Lib.hid (ev_part EVS[q] w)
            rw [hpq] at HPT
            obtain ⟨tt, xx, hxx⟩ := evv_ifc EVS[q]
            rw [hxx] at HRD HPT
            have HXX := Lib.hid hxx
            generalize EVS[q] = ev at *
            have heq := he.on hbq
            have hwB := hbr.size
            have hm1 : q + 1 ≤ maxLen := by unfold maxLen; omega
            clear hvo hvx hpq hxx hq1
            go_wp2_with (first | (go_at_call 8; (with_reducible refine (HRD _ heq).out.mono ?_); rintro e w13 ⟨rfl, b13⟩; have hs13 := hsl.onW b13; have hb13 := on_below hbr b13) | (go_at_call 10; (with_reducible refine (HPT _).out.mono ?_); rintro e w14 ⟨rfl, b14⟩; have hs14 := (hs13.onW b14).alloc (.cells #[.iface tt xx] 29); have hb14 := on_below hb13 b14; have hw14 := hb14.size) | (at_builtin; refine wpList_append_sl _ rfl (.tmp 92) (.tmp 94) 63 63 rfl 29 i0 _ 16 Tryz.underlying63 hi hz0 hz1 hz2 rfl rfl hs14 _ 1 [.iface tt xx] rfl (src_oneN Tryz.underlying63 _ (.iface tt xx) _ _ (by simp) rfl) hm1 (by omega) (by simp; omega) ?_; intro v1 w15 k1 k2 k3; obtain ⟨av1, cv1, rfl⟩ := k1.shape))
            exact ⟨⟨q + 1, by go_num, hqN, by rw [HE.out, List.map_append, List.map_cons, List.map_nil, HXX.out]; exact k1, (hb14.alloc hw14 _).upd k2 (by simp; omega) (fun i _ hi => by have := (hsl.lt i hi).1; omega)⟩, by simp [intOf]; omega⟩
          · obtain rfl : q = N := by omega
            rw [List.take_of_length_le (by rw [HLN.out]; exact Nat.le_refl _)] at hsl
            obtain ⟨hkl, a3, c3, hv3, hrow3⟩ := rowe_of_sl hsl
            rw [HLN.out] at hv3
            cases hv3
            have hNM := HNM.out
            subst hNM
            have hrw13 := hrow12.on hbr
            have hat13 := hat12.on hbr
            clear hsl hLn hkl hrun HE' HEP hrow12 hat12
            go_wp2_with (first | (go_at_call 21; (with_reducible refine (HO1 av cv _ hrow3).out.mono ?_); rintro e w16 ⟨a6, c6, rfl, hs6, b16⟩; have hrow6 := hrow3.on b16; have hb16 := on_below hbq b16) | (go_at_call 22; (with_reducible refine (HO3 av cv _ hrow6).out.mono ?_); rintro e w17 ⟨a7, c7, rfl, hs7, b17⟩; have hb17 := on_below hb16 b17; have hs67 := hs6.onW b17; have hrw17 := (hrw13.on b16).on b17; have hat17 := (hat13.on b16).on b17; obtain ⟨hgl, g0, -, g1, -, g2, -⟩ := hat17.three))
            clear HO1 HO3 hrow3 hrow6 hs6 hrw13 hat13 hbq hb16 b16 b17
            go_loopw [133] (fun i wr => ∃ p : Nat, i = .int .i64 p ∧ p ≤ M ∧ Below w17.heap.size w17 wr) (fun i _ => M - (intOf i).toNat)
            case atStart => exact ⟨0, rfl, Nat.zero_le _, Below.refl _ _⟩
            case round =>
              obtain ⟨p, rfl, hp, hbz⟩ := hrel
              have g0z := cell_kept hbz g0
              have g2z := cell_kept hbz g2
              by_cases hpM : p < M
              · have hp1 : p < rs.length := by omega
                have hpI : (p : Int) < (M : Int) := by omega
                obtain ⟨bE, oE, rfl, hblE, x0, x1, x2, x3, x4⟩ := els_at (hs67.onW hbz) hM p hp1
                obtain ⟨bP, oP, rfl, hblP, z0, z1, z2⟩ := (hrw17.on hbz).at_ p hp1
                clear hs67 hs7 hrw17 hat17 g0 g1 g2 g2z
                generalize rs[p] = r at *
                obtain ⟨rk, rt, rx⟩ := r
                simp only at x0 x1 x2 x3 x4 z0 z1 z2
                go_wp2
                have hO := (Below.refl wr.heap.size wr).alloc (Nat.le_refl _) (.cells #[.int .i64 a1, .int .i64 rk, .int .i64 rt, .string (bstr rx), .bool false] 55)
                have hZ := At.alloc wr [.int .i64 a1, .int .i64 rk, .int .i64 rt, .string (bstr rx), .bool false] 55
                have y0 := cell_kept hO z0; have y1 := cell_kept hO z1; have y2 := cell_kept hO z2; have g0o := cell_kept hO g0z
                have k0 := (hZ.2 0 (by simp)).1
                have k1 := (hZ.2 1 (by simp)).1
                have k2 := (hZ.2 2 (by simp)).1
                have k3 := (hZ.2 3 (by simp)).1
                have k4 := (hZ.2 4 (by simp)).1
                simp only [List.getElem_cons_succ, List.getElem_cons_zero] at k0 k1 k2 k3 k4
                clear hZ x0 x1 x2 x3 x4 z0 z1 z2 g0z
                go_quiet (fail)
                go_wp2
                exact ⟨⟨p + 1, by go_num, hpM, below_drewN (on_below hbz hO) _⟩, by simp [intOf]; omega⟩
              · obtain rfl : p = M := by omega
                go_wp2
                go_quiet (fail)
                go_wp2
                go_ret
                exact ⟨rfl, below_drewN (on_below hb17 hbz) _⟩
      · skip
        have HA := fun w h => Lib.hid (cu_ahead_is g a0 k rs.length w 2 h hks (by omega) (by rw [e3, if_neg her]; rfl))
        have HER := fun w h => Lib.hid (cu_err_is g a0 k rs.length w er h hks (by omega) (by rw [e2]))
        have hEND := endOf_one a1 her
        have hETX : etexts (rs.map (elOf a1)) ++ (eline (.fault a1 er) ++ [10]) = etexts (evsOf a1 rs er) := by unfold evsOf; rw [hEND, etexts_append]; simp [etexts]
        obtain ⟨hvo, hvx⟩ := HEV.out (.fault a1 er) (by unfold evsOf; rw [hEND]; simp)
        have hll := eline_len _ hvo
        have HTF : ∀ w', EnvE w' → Hid (Calls Tryz.prog 11 #[.slice (some ⟨w'.heap.size, 0, none⟩) 1 1] (w'.alloc (.cells #[.iface 40 (.agg #[.int .i64 a1, .int .i64 er])] 29)) fun e w2 => e = .returned (.string (bstr (eline (.fault a1 er) ++ [10]))) ∧ Below w'.heap.size w' w2) := fun w' h => text_one (.fault a1 er) hvo (by omega) w' h
        have HW := fun w' h hB => Lib.hid (b_write b b (etexts (rs.map (elOf a1))) (bstr (eline (.fault a1 er) ++ [10])) w' h (by rw [bstr_len, List.length_append]; have := HEL.out; show _ + (_ + 1) ≤ _; omega) hB)
        rw [show (bstr (eline (.fault a1 er) ++ [10])).data.toList = eline (.fault a1 er) ++ [10] from rfl, hETX] at HW
        have hE0 : er ≤ 5 := hvo5.out
        have hS0 := sel0_evsOf a1 rs er
        have hS2 := sel2_evsOf a1 rs er
        rw [hEND] at hS2
        have hEP := evsOf_part a1 rs er
        have hLN : (evsOf a1 rs er).length = rs.length + 1 := by unfold evsOf; rw [hEND, List.length_append, List.length_map]; rfl
        have hLT : (etexts (evsOf a1 rs er)).length ≤ 90000 := by rw [← hETX, List.length_append, List.length_append]; have := HEL.out; show _ + (_ + 1) ≤ _; omega
        have hNL : etexts (evsOf a1 rs er) = [] → rs = [] := fun h => by have := etexts_none h; unfold evsOf at this; simp [hEND] at this
        have HEV' := HEV.out
        skip
        generalize evsOf a1 rs er = EVS at *
        generalize hM : rs.length = M at *
        obtain ⟨N, hN⟩ : ∃ N, EVS.length = N := ⟨_, rfl⟩
        have hNM : N = M + 1 := by omega
        have HNM := Lib.hid hNM.symm
        have HLN := Lib.hid hN
        have HSL := fun w h => Lib.hid (split_lines EVS (N + 1) (by omega) w h hLT)
        have HRUN := fun (w' : World) (a : Option Addr) (c : Nat) (h1 : N + 1 ≤ c) (h2 : c ≤ 100000) => rows_to (P := Tryz.prog) (a := a) (n := N + 1) (c := c) h1 (by unfold maxLen; omega) Tryz.underlying61 one_cell_e N N rfl (by omega) w'
        have HO1 := fun a c w h => Lib.hid ((of_element a N c EVS w h hN.symm (by omega)).mono fun e w' h => h.p (n := M) hS0 (by rw [List.length_map]; exact hM))
        have HO3 := fun a c w h => Lib.hid ((of_fault a N c EVS w h hN.symm (by omega)).mono fun e w' h => h.p (n := 1) hS2 rfl)
        have HNL := Lib.hid hNL
        have HEP := Lib.hid hEP
        have HE' := Lib.hid HEV'
        have hgt : b < wr.heap.size := by have := hC.1; omega
        clear HEV HEL HTX0 e1 e2 e3 e4 hNL hEP HEV' hS0 hS2 hLT hETX hLN hEND hv hmi hil hlt hNM hN
        go_wp2_with (first | (go_at_call 13; first | ((with_reducible refine (HA _ hC).out.mono ?_); rintro e w5 ⟨rfl, b5⟩; have hC5 := hC.on b5; have hBl5 := bld_on hBl b5; have hb5 := on_below hb b5; have hs5 := b5.size) | ((with_reducible refine (HA _ hC5).out.mono ?_); rintro e w6 ⟨rfl, b6⟩; have hC6 := hC5.on b6; have hBl6 := bld_on hBl5 b6; have hb6 := on_below hb5 b6; have hs6 := Nat.le_trans hs5 b6.size)) | (go_at_call 17; (with_reducible refine (HER _ hC6).out.mono ?_); rintro e w7 ⟨rfl, b7⟩; have hBl7 := bld_on hBl6 b7; have hb7 := on_below hb6 b7; have hs7 := Nat.le_trans hs6 b7.size; have he7 := he.on hb7) | (go_at_call 11; (with_reducible refine (HTF _ he7).out.mono ?_); rintro e w8 ⟨rfl, b8⟩; have hBl8 := bld_on hBl7 b8; have hb8 := on_below hb7 b8; have hs8 := Nat.le_trans hs7 b8.size) | (go_at_call 16; (with_reducible refine (HW _ hBl8 (Nat.le_trans (Nat.le_of_lt hgt) hs8)).out.mono ?_); rintro e w9 ⟨rfl, hBl9, h9, -⟩; have hb9 := hb8.trans (h9.mono hwb); have hs9 := Nat.le_trans hs8 h9.size) | (go_at_call 18; (with_reducible refine (HRP.out _).mono ?_); rintro e w10 ⟨aP, cP, rfl, hrow, b10, hfr⟩; have hbA := b10.alloc b10.size (.cells #[.slice aP M cP, .int .i64 n, .int .i64 er] 59); have hrowA := hrow.on ((Below.refl _ w10).alloc (Nat.le_refl _) (.cells #[.slice aP M cP, .int .i64 n, .int .i64 er] 59)); have hatA := At.alloc w10 [.slice aP M cP, .int .i64 n, .int .i64 er] 59; have hkA := KindAt.alloc w10 #[.slice aP M cP, .int .i64 n, .int .i64 er] 59; have hbB := on_below hb9 hbA) | (go_at_call 20; (with_reducible refine (b_text_row b b _ aP rs w10.heap.size _ 59 w9 _ hBl9 hbA (Nat.le_trans (Nat.le_of_lt hgt) hs9) HNL.out hrowA hfr b10.size (by have := b10.size; omega) hatA hkA (by decide)).mono ?_); rintro e w11 ⟨rfl, b11, hrow11, hat11⟩; have hb11 := hbB.trans (b11.mono hwb)) | (go_at_call 19; (with_reducible refine (HSL _ (he.on hb11).wd).out.mono ?_); rintro e w12 ⟨aL, cL, rfl, hcc, hcm, hLn, b12⟩; have hrun := fun w' => HRUN w' aL cL hcc hcm; have hrow12 := hrow11.on b12; have hat12 := hat11.on b12; have hb12 := on_below hb11 b12))
        clear HRP HRUN HSL HA HER HTF HW 
        have h00 : Sl w12.heap.size w12 1 (.slice none 0 0) 0 ((EVS.take 0).map evv) := Sl.nil _ _ _
        obtain ⟨i0, hi, hz0, hz1, hz2⟩ := info_parts info_ifcT
        go_loopw [11, 75] (fun v i wr => ∃ q : Nat, i = .int .i64 q ∧ q ≤ N ∧ Sl w12.heap.size wr 1 v q ((EVS.take q).map evv) ∧ Below w12.heap.size w12 wr) (fun _ i _ => N - (intOf i).toNat)
        case atStart => exact ⟨0, rfl, Nat.zero_le _, h00, Below.refl _ _⟩
        case round =>
          clear h00
          obtain ⟨q, rfl, hq, hsl, hbr⟩ := hrel
          obtain ⟨av, cv, rfl⟩ := hsl.shape
          have hbq := on_below hb12 hbr
          by_cases hqN : q < N
          · have hq1 : q < EVS.length := by rw [HLN.out]; exact hqN
            obtain ⟨bL, oL, rfl, hbl, hcl⟩ := (hLn.on hbr).at_ q hq1
            have HE : Hid (EVS.take (q + 1) = EVS.take q ++ [EVS[q]]) := List.take_succ_eq_append_getElem hq1
            obtain ⟨hvo, hvx⟩ := HE'.out EVS[q] (List.getElem_mem hq1)
            have hpq := HEP.out EVS[q] (List.getElem_mem hq1)
            have HRD := fun w h => Lib.hid (ev_read_line EVS[q] hvo (by omega) w h)
            have HPT := fun w => Lib.hid (ev_part EVS[q] w)
            rw [hpq] at HPT
            obtain ⟨tt, xx, hxx⟩ := evv_ifc EVS[q]
            rw [hxx] at HRD HPT
            have HXX := Lib.hid hxx
            generalize EVS[q] = ev at *
            have heq := he.on hbq
            have hwB := hbr.size
            have hm1 : q + 1 ≤ maxLen := by unfold maxLen; omega
            clear hvo hvx hpq hxx hq1
            go_wp2_with (first | (go_at_call 8; (with_reducible refine (HRD _ heq).out.mono ?_); rintro e w13 ⟨rfl, b13⟩; have hs13 := hsl.onW b13; have hb13 := on_below hbr b13) | (go_at_call 10; (with_reducible refine (HPT _).out.mono ?_); rintro e w14 ⟨rfl, b14⟩; have hs14 := (hs13.onW b14).alloc (.cells #[.iface tt xx] 29); have hb14 := on_below hb13 b14; have hw14 := hb14.size) | (at_builtin; refine wpList_append_sl _ rfl (.tmp 92) (.tmp 94) 63 63 rfl 29 i0 _ 16 Tryz.underlying63 hi hz0 hz1 hz2 rfl rfl hs14 _ 1 [.iface tt xx] rfl (src_oneN Tryz.underlying63 _ (.iface tt xx) _ _ (by simp) rfl) hm1 (by omega) (by simp; omega) ?_; intro v1 w15 k1 k2 k3; obtain ⟨av1, cv1, rfl⟩ := k1.shape))
            exact ⟨⟨q + 1, by go_num, hqN, by rw [HE.out, List.map_append, List.map_cons, List.map_nil, HXX.out]; exact k1, (hb14.alloc hw14 _).upd k2 (by simp; omega) (fun i _ hi => by have := (hsl.lt i hi).1; omega)⟩, by simp [intOf]; omega⟩
          · obtain rfl : q = N := by omega
            rw [List.take_of_length_le (by rw [HLN.out]; exact Nat.le_refl _)] at hsl
            obtain ⟨hkl, a3, c3, hv3, hrow3⟩ := rowe_of_sl hsl
            rw [HLN.out] at hv3
            cases hv3
            have hNM := HNM.out
            subst hNM
            have heI : ¬ (er : Int) = 0 := by omega
            have hrw13 := hrow12.on hbr
            have hat13 := hat12.on hbr
            clear hsl hLn hkl hrun HE' HEP hrow12 hat12
            go_wp2_with (first | (go_at_call 21; (with_reducible refine (HO1 av cv _ hrow3).out.mono ?_); rintro e w16 ⟨a6, c6, rfl, hs6, b16⟩; have hrow6 := hrow3.on b16; have hb16 := on_below hbq b16) | (go_at_call 22; (with_reducible refine (HO3 av cv _ hrow6).out.mono ?_); rintro e w17 ⟨a7, c7, rfl, hs7, b17⟩; have hb17 := on_below hb16 b17; have hs67 := hs6.onW b17; have hrw17 := (hrw13.on b16).on b17; have hat17 := (hat13.on b16).on b17; obtain ⟨hgl, g0, -, g1, -, g2, -⟩ := hat17.three))
            · rename_i hx; exact absurd hx (by rw [show ((er : Int) != 0) = true by simpa using heI]; decide)
            clear HO1 HO3 hrow3 hrow6 hs6 hrw13 hat13 hbq hb16 b16 b17
            go_loopw [133] (fun i wr => ∃ p : Nat, i = .int .i64 p ∧ p ≤ M ∧ Below w17.heap.size w17 wr) (fun i _ => M - (intOf i).toNat)
            case atStart => exact ⟨0, rfl, Nat.zero_le _, Below.refl _ _⟩
            case round =>
              obtain ⟨p, rfl, hp, hbz⟩ := hrel
              have g0z := cell_kept hbz g0
              have g2z := cell_kept hbz g2
              by_cases hpM : p < M
              · have hp1 : p < rs.length := by omega
                have hpI : (p : Int) < (M : Int) := by omega
                obtain ⟨bE, oE, rfl, hblE, x0, x1, x2, x3, x4⟩ := els_at (hs67.onW hbz) hM p hp1
                obtain ⟨bP, oP, rfl, hblP, z0, z1, z2⟩ := (hrw17.on hbz).at_ p hp1
                clear hs67 hs7 hrw17 hat17 g0 g1 g2 g2z
                generalize rs[p] = r at *
                obtain ⟨rk, rt, rx⟩ := r
                simp only at x0 x1 x2 x3 x4 z0 z1 z2
                go_wp2
                have hO := (Below.refl wr.heap.size wr).alloc (Nat.le_refl _) (.cells #[.int .i64 a1, .int .i64 rk, .int .i64 rt, .string (bstr rx), .bool false] 55)
                have hZ := At.alloc wr [.int .i64 a1, .int .i64 rk, .int .i64 rt, .string (bstr rx), .bool false] 55
                have y0 := cell_kept hO z0; have y1 := cell_kept hO z1; have y2 := cell_kept hO z2; have g0o := cell_kept hO g0z
                have k0 := (hZ.2 0 (by simp)).1
                have k1 := (hZ.2 1 (by simp)).1
                have k2 := (hZ.2 2 (by simp)).1
                have k3 := (hZ.2 3 (by simp)).1
                have k4 := (hZ.2 4 (by simp)).1
                simp only [List.getElem_cons_succ, List.getElem_cons_zero] at k0 k1 k2 k3 k4
                clear hZ x0 x1 x2 x3 x4 z0 z1 z2 g0z
                go_quiet (fail)
                go_wp2
                exact ⟨⟨p + 1, by go_num, hpM, below_drewN (on_below hbz hO) _⟩, by simp [intOf]; omega⟩
              · obtain rfl : p = M := by omega
                obtain ⟨bF, oF, rfl, hblF, z0, z1⟩ := fault_at (hs7.onW hbz)
                go_wp2
                go_quiet (fail)
                go_wp2
                go_ret
                exact ⟨rfl, below_drewN (on_below hb17 hbz) _⟩
end Go.Proofs.YtcigklninmddaaaGreatDoor
