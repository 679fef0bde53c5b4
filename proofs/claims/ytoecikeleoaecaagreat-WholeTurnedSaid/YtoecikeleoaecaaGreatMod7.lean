/- Contracts of the model's calls: a partition is asked. -/
import Derived.Test.YtoecikeleoaecaaGreatMod6
namespace Go.Proofs.YtoecikeleoaecaaGreat
set_option maxRecDepth 4000
open Go.ChangeShapes Go.WideShapes Go.ChangeAt Go.RowKit
open PHist PRing PSat PClamp PBound PFrame PSign PTree PEv
set_option linter.unusedVariables false
set_option linter.unusedSimpArgs false

set_option maxHeartbeats 2000000 in
theorem mo_poll_no (K : Option Addr → Nat → List R → Prop) (B g : Nat) (ra : Option Addr) (rn rc : Nat) (a : Option Addr) (n c : Nat) (l : List Pv) (s : St) (i : Int) (w : World) (h : MoS K B w g (.slice ra rn rc) a n c l s.ps s.timeout s.drift s.clock s.now) (hok : s.Ok) (hv : s.refused i = true) :
    Calls Tryz.prog 82 #[.pointer (some ⟨g, 0, none⟩), .int .i64 i] w (MoPost K B g (.slice ra rn rc) a n c s.ps s.timeout s.drift s.clock s.now (fun b => b = g ∨ (Value.slice a n c).ownBlock = some b) [] w) := by
  have HR := Lib.hid (mo_refused ra rn rc a n c l s i w h.rowp h.len h.map hok true hv)
  have HH := Lib.hid h
  obtain ⟨hgl, p0, -, p1, -, p2, -, p3, -, p4, -, p5, -⟩ := h.blk.cells6
  clear h hv
  go_enter Tryz.func82, Tryz.ntmps82
  go_wp2_with (first | (go_at_call 85; (with_reducible refine HR.out.mono ?_); rintro e1 w1 ⟨rfl, hb1⟩) | fail)
  go_ret
  exact ⟨l, .slice none 0 0, rfl, Sl.nil _ _ _, HH.out.on hb1, Upd.of_below hb1 (fun q h1 h2 => by omega)⟩

theorem late_cases (now : Int) (r : R) : (now = -9223372036854775808 ∧ lateOf now r = false) ∨ (now ≠ -9223372036854775808 ∧ r.2.1 ≤ now ∧ lateOf now r = true) ∨ (now ≠ -9223372036854775808 ∧ now < r.2.1 ∧ lateOf now r = false) := by
  unfold lateOf
  by_cases h1 : now = -9223372036854775808
  · exact .inl ⟨h1, decide_eq_false (fun h => h.1 h1)⟩
  · by_cases h2 : r.2.1 ≤ now
    · exact .inr (.inl ⟨h1, h2, decide_eq_true ⟨h1, h2⟩⟩)
    · exact .inr (.inr ⟨h1, by omega, decide_eq_false (fun h => h2 h.2)⟩)
theorem set_twice {ps : List Pt} {i : Nat} (h : i < ps.length) (p : Pt) : (ps.set i p).set i (settled (pat (ps.set i p) i)) = ps.set i (settled p) ∧ faults (pat (ps.set i p) i) i = faults p i := by
  have e : pat (ps.set i p) i = p := by rw [pat_set h]; unfold put; rw [if_pos rfl]
  rw [e, List.set_set]
  exact ⟨rfl, rfl⟩
/-- A partition behind a record of it: two more numbers written. -/
theorem MoS.gone2 {K : Option Addr → Nat → List R → Prop} {B : Nat} {w : World} {g : Nat} {ru : Value} {b off : Nat} {n c : Nat} {l : List Pv} {ps : List Pt} {t d k m : Int} (i : Nat) (hi : i < l.length) (v : Pv) (h : MoS K B w g ru (some ⟨b, off, none⟩) n c (l.set i { v with p := { v.p with read := v.p.read + 1 } }) (ps.set i { v.p with read := v.p.read + 1 }) t d k m) (til : Int) :
    MoS K B ((w.setCell ⟨b, off + i * 10 + 8, none⟩ (.int .i64 0)).setCell ⟨b, off + i * 10 + 9, none⟩ (.int .i64 til)) g ru (some ⟨b, off, none⟩) n c (l.set i { v with p := v.p.gone til }) (ps.set i (v.p.gone til)) t d k m ∧
    Upd (fun q => q = b) w ((w.setCell ⟨b, off + i * 10 + 8, none⟩ (.int .i64 0)).setCell ⟨b, off + i * 10 + 9, none⟩ (.int .i64 til)) := by
  have hi1 : i < (l.set i { v with p := { v.p with read := v.p.read + 1 } }).length := by rw [List.length_set]; exact hi
  obtain ⟨h2, u2⟩ := h.poke i 8 hi1 (by omega) { v with p := { v.p with read := v.p.read + 1 } } (by rw [List.getElem_set_self]) { v.p with read := v.p.read + 1, is := 0 } (.int .i64 0) rfl rfl
  rw [List.set_set, List.set_set] at h2
  have hi2 : i < (l.set i { v with p := { v.p with read := v.p.read + 1, is := 0 } }).length := by rw [List.length_set]; exact hi
  obtain ⟨h3, u3⟩ := h2.poke i 9 hi2 (by omega) { v with p := { v.p with read := v.p.read + 1, is := 0 } } (by rw [List.getElem_set_self]) (v.p.gone til) (.int .i64 til) rfl rfl
  rw [List.set_set, List.set_set] at h3
  exact ⟨h3, u2.trans u3 (fun _ _ h => h)⟩
/-- Its records are older than what comes. -/
theorem MoS.old {K : Option Addr → Nat → List R → Prop} {B : Nat} {w : World} {g : Nat} {ru : Value} {a : Option Addr} {n c : Nat} {l : List Pv} {ps : List Pt} {t d k m : Int} (h : MoS K B w g ru a n c l ps t d k m) {N : Nat} (hN : w.heap.size ≤ N) :
    MoS (fun a c r => K a c r ∧ ∀ p, a = some p → 0 < r.length → p.block < N) B w g ru a n c l ps t d k m :=
  ⟨h.blk, h.row, h.len, h.map, h.ne, h.ok, fun v hv => ⟨h.kk v hv, fun p hp h0 => by
    obtain ⟨b', off, hab, hb, -⟩ := (h.ok v hv).row.at_ 0 h0
    rw [hab] at hp; cases hp
    exact Nat.lt_of_lt_of_le hb hN⟩, h.fr⟩
theorem MoS.weak {K K' : Option Addr → Nat → List R → Prop} {B : Nat} {w : World} {g : Nat} {ru : Value} {a : Option Addr} {n c : Nat} {l : List Pv} {ps : List Pt} {t d k m : Int} (h : MoS K B w g ru a n c l ps t d k m) (hk : ∀ a c r, K a c r → K' a c r) : MoS K' B w g ru a n c l ps t d k m :=
  ⟨h.blk, h.row, h.len, h.map, h.ne, h.ok, fun v hv => hk _ _ _ (h.kk v hv), h.fr⟩

set_option maxHeartbeats 8000000 in
theorem mo_poll (K : Option Addr → Nat → List R → Prop) (B g : Nat) (ra : Option Addr) (rn rc : Nat) (a : Option Addr) (n c : Nat) (l : List Pv) (ps : List Pt) (tm dr ck nw : Int) (i : Nat) (w : World) (h : MoS K B w g (.slice ra rn rc) a n c l ps tm dr ck nw) (hok : St.Ok ⟨ps, tm, dr, ck, nw⟩) (hv : St.refused ⟨ps, tm, dr, ck, nw⟩ i = false) :
    Calls Tryz.prog 82 #[.pointer (some ⟨g, 0, none⟩), .int .i64 i] w (MoPost K B g (.slice ra rn rc) a n c (St.pollS ⟨ps, tm, dr, ck, nw⟩ i).ps tm dr ck (St.pollS ⟨ps, tm, dr, ck, nw⟩ i).now (fun b => b = g ∨ (Value.slice a n c).ownBlock = some b) (St.pollE ⟨ps, tm, dr, ck, nw⟩ i) w) := by
  have HR : Hid (Calls Tryz.prog 85 #[.agg #[.slice ra rn rc, .int .i64 tm, .int .i64 dr, .slice a n c, .int .i64 ck, .int .i64 nw], .int .i64 i] w fun e w' => e = .returned (.bool false) ∧ Below w.heap.size w w') := mo_refused ra rn rc a n c l ⟨ps, tm, dr, ck, nw⟩ i w h.rowp h.len h.map hok false hv
  have hip : i < ps.length := by have := (refused_not hv).2.1; rw [Int.toNat_natCast] at this; exact this
  have hrd : (pat ps i).read < (pat ps i).recs.length := by have := refused_read hok hv; rw [Int.toNat_natCast] at this; exact this
  have hil : i < l.length := by rw [← h.len, h.plen]; exact hip
  have hi : i < n := by rw [h.plen]; exact hip
  have hn8 : n ≤ 8 := by rw [h.plen]; exact hok.n
  obtain ⟨b, off, rfl, hBb, hbl, hbg, hfr⟩ := h.at_ i hil
  have hpi := h.pat i hil
  have HOK : Hid (∀ p ∈ St.polled ⟨ps, tm, dr, ck, nw⟩ i, p.Ok) := (hok.poll hip hrd).pt
  have hpok := hok.pt _ (pat_mem hip)
  have hck : in64 ck := hok.ck
  have htm : in64 tm := by have h1 : 1 ≤ tm ∧ tm ≤ 9223372036854775807 := hok.tm; unfold in64; omega
  have HP1 := fun w' (h' : MoS K B w' g (.slice ra rn rc) (some ⟨b, off, none⟩) n c l ps tm dr ck nw) (v : Pv) (hv : l[i] = v) => h'.poke i 7 hil (by omega) v hv { v.p with read := v.p.read + 1 } (.int .i64 ((v.p.read : Int) + 1)) rfl rfl
  have HDL := fun (l' : List Pv) (ps' : List Pt) w' (h' : MoS K B w' g (.slice ra rn rc) (some ⟨b, off, none⟩) n c l' ps' tm dr ck nw) => Lib.hid (mo_deadline g _ _ tm dr ck nw w' h'.blk hck htm)
  have hST := set_twice hip ((pat ps i).gone (add ck tm))
  have H400 : Hid (∀ p ∈ ps.set i ((pat ps i).gone (add ck tm)), p.recs.length ≤ 400) := fun p hm => by
    rcases List.mem_or_eq_of_mem_set hm with hm | rfl
    · exact (hok.pt p hm).few
    · exact hpok.few
  have HSE := fun (K' : Option Addr → Nat → List R → Prop) (l' : List Pv) w' (h' : MoS K' B w' g (.slice ra rn rc) (some ⟨b, off, none⟩) n c l' (ps.set i ((pat ps i).gone (add ck tm))) tm dr ck nw) => Lib.hid (mo_settle K' B g _ _ n c l' _ tm dr ck nw i w' h' hi H400.out (by omega))
  rw [hST.1, hST.2] at HSE
  have hfl := faults_len ((pat ps i).gone (add ck tm)) i
  have hml := marksE_len nw (St.polled ⟨ps, tm, dr, ck, nw⟩ i)
  have hfew : (pat ps i).recs.length ≤ 400 := hpok.few
  have HAD := fun (K' : Option Addr → Nat → List R → Prop) (l' : List Pv) w' (h' : MoS K' B w' g (.slice ra rn rc) (some ⟨b, off, none⟩) n c l' (ps.set i (settled ((pat ps i).gone (add ck tm)))) tm dr ck nw) => Lib.hid (mo_advance K' B g _ _ n c l' _ tm dr ck nw w' h' HOK.out (by omega))
  have HGN := fun w' (v : Pv) (h' : MoS K B w' g (.slice ra rn rc) (some ⟨b, off, none⟩) n c (l.set i { v with p := { v.p with read := v.p.read + 1 } }) (ps.set i { v.p with read := v.p.read + 1 }) tm dr ck nw) => MoS.gone2 i hil v h' (add ck tm)
  show Calls Tryz.prog 82 _ w (MoPost K B g _ _ n c (ps.set i (settled ((pat ps i).gone (add ck tm)))) tm dr ck (further nw (ps.set i (settled ((pat ps i).gone (add ck tm))))) _ (Ev.el (lateOf nw (recAt (pat ps i))) i (recAt (pat ps i)).1 (recAt (pat ps i)).2.1 (recAt (pat ps i)).2.2 :: (faults ((pat ps i).gone (add ck tm)) i ++ marksE nw (ps.set i (settled ((pat ps i).gone (add ck tm)))))) w)
  rw [show St.polled ⟨ps, tm, dr, ck, nw⟩ i = ps.set i (settled ((pat ps i).gone (add ck tm))) from rfl] at hml
  generalize faults ((pat ps i).gone (add ck tm)) i = es1 at *
  generalize marksE nw (ps.set i (settled ((pat ps i).gone (add ck tm)))) = es2 at *
  generalize further nw (ps.set i (settled ((pat ps i).gone (add ck tm)))) = fu at *
  generalize ps.set i (settled ((pat ps i).gone (add ck tm))) = psF at *
  generalize add ck tm = til at *
  rw [← hpi] at hrd hfew HSE ⊢
  have hcell := fun w' (h' : MoS K B w' g (.slice ra rn rc) (some ⟨b, off, none⟩) n c l ps tm dr ck nw) => h'.rowp.cell i hil
  have hvo := fun w' (h' : MoS K B w' g (.slice ra rn rc) (some ⟨b, off, none⟩) n c l ps tm dr ck nw) => h'.ok _ (List.getElem_mem hil)
  have HH := Lib.hid h
  have hgl : g < w.heap.size := h.blk.1
  clear hfr hpi hpok hok hv hST H400 hck htm hip
  generalize hv : l[i] = v at *
  have HV := Lib.hid hv
  clear hv
  have HNX := fun w' hv => Lib.hid (mo_next_one v w' hv hfew hrd)
  have HGN1 := fun w' h' => HGN w' v h'
  have HP2 := fun w' h' => HP1 w' h' v rfl
  clear HGN HP1
  have HLT := late_cases nw (recAt v.p)
  generalize hlt : lateOf nw (recAt v.p) = lt at *
  clear hlt
  generalize recAt v.p = r at *
  obtain ⟨rk, rt, rx⟩ := r
  simp only at HLT HNX ⊢
  obtain ⟨hbb, r0, r1, r2, r3, r4, r5, r6, r7, r8, r9⟩ := hcell w HH.out
  obtain ⟨-, p0, -, p1, -, p2, -, p3, -, p4, -, p5, -⟩ := h.blk.cells6
  obtain ⟨⟨⟨kd, bd, pc, wn, sg⟩, recs, er, rd, is, tl⟩, av, cv⟩ := v
  simp only [Pv.val] at HNX hcell r0 r1 r2 r3 r4 r5 r6 r7 r8 r9 HP2 HGN1 hvo
  have hii : (i : Int) < (n : Int) := by omega
  have hrb : (rd : Int) ≤ 400 := by have h1 : rd < recs.length := hrd; have h2 : recs.length ≤ 400 := hfew; omega
  have hrb0 : (0 : Int) ≤ (rd : Int) := by omega
  clear h hrd hfew
  go_enter Tryz.func82, Tryz.ntmps82
  go_upto_region 7 with (first | (go_at_call 85; (with_reducible refine HR.out.mono ?_); rintro e1 w1 ⟨rfl, hb1⟩; have h1 := HH.out.on hb1; have HN1 := HNX w1 (hvo w1 h1); obtain ⟨hbb1, s0, s1, s2, s3, s4, s5, s6, s7, s8, s9⟩ := hcell w1 h1; obtain ⟨-, t0, -, t1, -, t2, -, t3, -, t4, -, t5, -⟩ := h1.blk.cells6) | (go_at_call 125; (with_reducible refine HN1.out.mono ?_); rintro e2 w2 ⟨rfl, hb2⟩) | fail)
  clear r0 r1 r2 r3 r4 r5 r6 r7 r8 r9 p0 p1 p2 p3 p4 p5 s0 s1 s2 s3 s4 s5 s6 s7 s8 s9 t0 t1 t2 t3 t4 t5 hbb hbb1 HN1 HNX HR
  have hb12 := on_below hb1 hb2
  have hb3 := on_below hb12 (rec_alloc w2 (.int .i64 rk) (.int .i64 rt) (.string (bstr rx)))
  have hRc := At.alloc w2 [.int .i64 rk, .int .i64 rt, .string (bstr rx)] 117
  have h3 := HH.out.on hb3
  have hgr : w.heap.size ≤ w2.heap.size := hb12.size
  clear hb1 hb2 hb12 h1
  generalize w2.alloc (.cells #[.int .i64 rk, .int .i64 rt, .string (bstr rx)] 117) = w3 at *
  generalize w2.heap.size = gr at *
  go_cut [8] (fun v wx => v = .bool lt ∧ ∃ mm, wx = w3.drewN mm)
  case first =>
    obtain ⟨-, -, -, -, -, -, -, -, -, -, -, p5, -⟩ := h3.blk.cells6
    obtain ⟨-, q0, -, q1, -, q2, -⟩ := hRc.three
    clear HSE HAD HDL HP2 HGN1 hcell hvo HOK hb3 h3 hRc HV
    rcases HLT with ⟨e1, e2⟩ | ⟨e1, e2, e3⟩ | ⟨e1, e2, e3⟩
    · subst e2
      have hne : (nw != -9223372036854775808) = false := by rw [e1]; rfl
      clear e1
      go_quiet (fail)
      all_goals (go_wp2_with fail; go_meet)
      all_goals exact ⟨rfl, _, rfl⟩
    · subst e3
      have hne : (nw != -9223372036854775808) = true := by rw [bne_iff_ne]; exact e1
      have e2' : rt ≤ nw := e2
      clear e1 e2
      go_quiet (fail)
      all_goals (go_wp2_with fail; go_meet)
      all_goals exact ⟨rfl, _, rfl⟩
    · subst e3
      have hne : (nw != -9223372036854775808) = true := by rw [bne_iff_ne]; exact e1
      have e2' : nw < rt := e2
      have e3' : decide (rt ≤ nw) = false := decide_eq_false (by omega)
      clear e1 e2
      go_quiet (fail)
      all_goals (go_wp2_with fail; go_meet)
      all_goals exact ⟨rfl, _, rfl⟩
  case rest =>
    obtain ⟨rfl, mm, rfl⟩ := hcut
    have hb4 := on_quiet (w := w3) ⟨mm, rfl⟩
    have hb34 := on_below hb3 hb4
    have h4 := h3.on hb4
    have hRc4 := hRc.drewN mm
    clear h3 hRc hb3 hb4 HLT
    generalize w3.drewN mm = w4 at *
    obtain ⟨hbb, r0, r1, r2, r3, r4, r5, r6, r7, r8, r9⟩ := hcell w4 h4
    have f7 := (sl_free h4.row i hi).2.2 7 (by omega)
    obtain ⟨h5, hu5⟩ := HP2 w4 h4
    have HD5 := HDL _ _ _ h5
    have hgne : gr ≠ g ∧ gr ≠ b := by omega
    have hRc5 := hRc4.upd hu5 hgne.2
    have HX6 : Hid (∀ w6, Below (w4.setCell ⟨b, off + i * 10 + 7, none⟩ (.int .i64 ((rd : Int) + 1))).heap.size (w4.setCell ⟨b, off + i * 10 + 7, none⟩ (.int .i64 ((rd : Int) + 1))) w6 → (w6.frozen? ⟨b, off + i * 10 + 8, none⟩ = false ∧ w6.frozen? ⟨b, off + i * 10 + 9, none⟩ = false ∧ b < w6.heap.size ∧ ∃ x y, w6.cell? ⟨b, off + i * 10 + 8, none⟩ = some x ∧ w6.cell? ⟨b, off + i * 10 + 9, none⟩ = some y)) := fun w6 hb6 => by
      have h6 := h5.on hb6
      have hc := h6.rowp.cell i (by rw [← h6.len]; exact hi)
      exact ⟨(sl_free h6.row i hi).2.2 8 (by omega), (sl_free h6.row i hi).2.2 9 (by omega), hc.1, _, _, hc.2.2.2.2.2.2.2.2.2.1, hc.2.2.2.2.2.2.2.2.2.2⟩
    go_upto_region 10 with (first | (go_at_call 78; (with_reducible refine HD5.out.mono ?_); rintro e6 w6 ⟨rfl, hb6⟩; obtain ⟨f8, f9, hb9, x8, x9, c8, c9⟩ := HX6.out w6 hb6) | fail)
    obtain ⟨h7, hu7⟩ := HGN1 w6 (h5.on hb6)
    have hRc7 := (hRc5.on hb6).upd hu7 hgne.2
    have hU7 : Upd (fun q => q = b) w ((w6.setCell ⟨b, off + i * 10 + 8, none⟩ (.int .i64 0)).setCell ⟨b, off + i * 10 + 9, none⟩ (.int .i64 til)) := (((Upd.of_below hb34 (fun q h1 h2 => by omega)).trans hu5 (fun _ _ h => h)).trans (Upd.of_below (S := fun q => q = b) hb6 (fun q h1 h2 => by omega)) (fun _ _ h => h)).trans hu7 (fun _ _ h => h)
    clear r0 r1 r2 r3 r4 r5 r6 r7 r8 r9 hbb f7 f8 f9 hb9 c8 c9 HX6 h4 h5 hu5 hu7 hRc4 hRc5 hb6 HD5 HDL HGN1 HP2 hcell hvo hb34
    generalize (w6.setCell ⟨b, off + i * 10 + 8, none⟩ (.int .i64 0)).setCell ⟨b, off + i * 10 + 9, none⟩ (.int .i64 til) = w7 at *
    obtain ⟨-, q0, -, q1, -, q2, -⟩ := hRc7.three
    have hba := (Below.refl w7.heap.size w7).alloc (Nat.le_refl _) (.cells #[.iface 123 (.agg #[.int .i64 i, .int .i64 rk, .int .i64 rt, .string (bstr rx), .bool lt])] 67)
    have hE8 := evi_row (B := w7.heap.size) (T := 67) (w := w7) (.el lt i rk rt rx) (.iface 123 (.agg #[.int .i64 i, .int .i64 rk, .int .i64 rt, .string (bstr rx), .bool lt])) rfl rfl (Nat.le_refl _)
    have h8 := (h7.old (Nat.le_refl _)).on hba
    have hu8 := hU7.alloc (.cells #[.iface 123 (.agg #[.int .i64 i, .int .i64 rk, .int .i64 rt, .string (bstr rx), .bool lt])] 67)
    have hgb7 : g < w7.heap.size ∧ b < w7.heap.size := ⟨h7.blk.1, Nat.lt_of_lt_of_le hbl hU7.size⟩
    have hsz7 : w.heap.size ≤ w7.heap.size := hU7.size
    have h78 : w7.heap.size < (w7.alloc (.cells #[.iface 123 (.agg #[.int .i64 i, .int .i64 rk, .int .i64 rt, .string (bstr rx), .bool lt])] 67)).heap.size := by simp
    go_upto_region 11 with fail
    clear q0 q1 q2 hRc7 h7 hU7 hba
    generalize w7.alloc (.cells #[.iface 123 (.agg #[.int .i64 i, .int .i64 rk, .int .i64 rt, .string (bstr rx), .bool lt])] 67) = w8 at *
    generalize w7.heap.size = g7 at *
    obtain ⟨i0, hi0, hz0, hz1, hz2⟩ := info_parts info_cl_ev
    have HS8 := HSE _ _ _ h8
    have hm1 : 1 + es1.length ≤ maxLen := by unfold maxLen; omega
    have hm2 : 1 + es1.length + es2.length ≤ maxLen := by unfold maxLen; omega
    go_upto_region 12 with (first | (go_at_call 79; (with_reducible refine HS8.out.mono ?_); intro e9 w9 hY; obtain ⟨l9, r9, rfl, hs9, h9, hu9⟩ := hY; obtain ⟨ar, cr, hr9⟩ := hs9.shape; subst hr9; have hE9 := hE8.upd hu9 (fun q h1 h2 => by have h1' : g7 = q := Option.some.inj h1; have h2' : b = q := Option.some.inj h2; omega)) | (at_builtin; refine wpList_append_sl _ rfl (.tmp 65) (.tmp 68) 41 41 rfl 67 i0 _ 16 Tryz.underlying41 hi0 hz0 hz1 hz2 rfl rfl hE9 (.slice ar es1.length cr) es1.length (es1.map evv) rfl (src_sl hs9 Tryz.underlying41 (evv_one _)) hm1 (by omega) (by have := hu9.size; omega) ?_; intro v10 w10 k1 k2 k3) | fail)
    have h10 := h9.upd k2 (fun h => by have h' : g7 = g := Option.some.inj h; omega) (fun q h1 h2 => by have h1' : b = q := Option.some.inj h1; have h2' : g7 = q := Option.some.inj h2; omega) (fun v hv p hp h0 h => by have h' : g7 = p.block := Option.some.inj h; have := (h9.kk v hv).2 p hp h0; omega)
    have hu10 := (hu8.trans hu9 (fun q _ h => (Option.some.inj h).symm)).trans k2 (fun q h1 h2 => by have h2' : g7 = q := Option.some.inj h2; omega)
    have hk10 := k1
    obtain ⟨a10, c10, hv10⟩ := k1.shape
    subst hv10
    have hs10 : w8.heap.size ≤ w10.heap.size := Nat.le_trans hu9.size k2.size
    have hb10 : ∀ q, (Value.slice a10 (1 + es1.length) c10).ownBlock = some q → q ≠ g ∧ q ≠ b ∧ g7 ≤ q := fun q hq => by
      have := (hk10.lt q hq).1
      omega
    have HA10 := HAD _ _ _ h10
    go_wp2_with (first | (go_at_call 80; (with_reducible refine HA10.out.mono ?_); intro e11 w11 hY; obtain ⟨l11, r11, rfl, hs11, h11, hu11⟩ := hY; obtain ⟨am, cm, hr11⟩ := hs11.shape; subst hr11; have hE11 := k1.upd hu11 (fun q h1 h2 => (hb10 q h1).1 h2)) | (at_builtin; refine wpList_append_sl _ rfl (.tmp 70) (.tmp 72) 41 41 rfl 67 i0 _ 16 Tryz.underlying41 hi0 hz0 hz1 hz2 rfl rfl hE11 (.slice am es2.length cm) es2.length (es2.map evv) rfl (src_sl hs11 Tryz.underlying41 (evv_one _)) hm2 (by omega) (by have := hu11.size; omega) ?_; intro v13 w13 m1 m2 m3) | fail)
    go_ret
    have h13 := h11.upd m2 (fun h => (hb10 _ h).1 rfl) (fun q h1 h2 => (hb10 q h2).2.1 (Option.some.inj h1).symm) (fun v hv p hp h0 h => by have := (hb10 _ h).2.2; have := (h11.kk v hv).2 p hp h0; omega)
    refine ⟨l11, v13, rfl, ?_, h13.weak (fun _ _ _ h => h.1), ((hu10.mono (fun q _ h => .inr (by rw [h]; rfl))).trans hu11 (fun q _ h => .inl h)).trans m2 (fun q h1 h2 => by have := (hb10 q h2).2.2; omega)⟩
    have m1' := m1.base hsz7
    rw [show (Ev.el lt i rk rt rx :: (es1 ++ es2)).length = 1 + es1.length + es2.length by rw [List.length_cons, List.length_append]; omega, show (Ev.el lt i rk rt rx :: (es1 ++ es2)).map evv = [Ev.el lt i rk rt rx].map evv ++ es1.map evv ++ es2.map evv by simp]
    exact m1'
end Go.Proofs.YtoecikeleoaecaaGreat
