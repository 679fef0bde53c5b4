/- Contracts of the model's calls: a state apart; the clock goes on. -/
import Derived.Test.YtoecikeleoaecaaGreatMod5
import Derived.Test.YtoecikeleoaecaaGreatKSrcA
namespace Go.Proofs.YtoecikeleoaecaaGreat
set_option maxRecDepth 4000
open Go.ChangeShapes Go.WideShapes Go.ChangeAt Go.RowKit
open PHist PRing PSat PClamp PBound PFrame PSign PTree PEv
set_option linter.unusedVariables false
set_option linter.unusedSimpArgs false

theorem rowg_none {α : Type} {w : World} {m : Nat} {f : α → List Value} {l : List α} (h : RowG w m f none l) : l = [] := by
  cases l with
  | nil => rfl
  | cons x l => obtain ⟨b, off, h1, -⟩ := h.at_ 0 (by simp); cases h1
theorem flat_len {α : Type} (f : α → List Value) (m : Nat) (hf : ∀ x, (f x).length = m) : ∀ l : List α, (l.flatMap f).length = l.length * m
  | [] => by simp
  | x :: l => by rw [List.flatMap_cons, List.length_append, hf, flat_len f m hf l, List.length_cons, Nat.succ_mul]; omega
/-- A row of flat things that is read, as what is appended. -/
theorem src_rowg {α : Type} {P : Program} {tx e' : TypeId} (hk : P.underlying tx = some (.slice e')) (w : World) (a : Option Addr) (n c m : Nat) (h0 : 0 < m) (f : α → List Value) (hf : ∀ x, (f x).length = m) (h1 : ∀ x, ∀ u ∈ f x, u.oneCell' = true) (l : List α) (h : RowG w m f a l) (hn : l.length = n) : Src P m tx (.slice a n c) n (l.flatMap f) w := by
  subst hn
  by_cases hl : l.length = 0
  · have e : l = [] := List.eq_nil_of_length_eq_zero hl
    subst e
    cases a with
    | none => exact Src.ofNil w hk _
    | some p => exact Src.ofSlice w hk p 0 c [] (by simp) (fun j u hu => by simp at hu) (fun u hu => by cases hu)
  · obtain ⟨b, off, rfl, -, -⟩ := h.at_ 0 (by omega)
    refine Src.ofSlice w hk _ _ _ _ (flat_len f m hf l) (fun j u hu => ?_) (fun u hu => by obtain ⟨x, -, hx⟩ := List.mem_flatMap.1 hu; exact h1 x u hx)
    have hj := (List.getElem?_eq_some_iff.1 hu).1
    rw [flat_len f m hf] at hj
    have hq : j / m < l.length := Nat.div_lt_of_lt_mul (by rw [Nat.mul_comm]; exact hj)
    have hr : j % m < m := Nat.mod_lt _ h0
    have hd : j / m * m + j % m = j := Nat.div_add_mod' j m
    have e := flat_nth f m hf l (j / m) hq (j % m) hr
    rw [hd, hu] at e
    have h2 := (h.cell (j / m) hq).2 (j % m) hr
    rw [Addr.add_lit, show off + j = off + j / m * m + j % m by omega, h2, ← e]
theorem rul_one (r : Rul) : ∀ u ∈ r.cells, u.oneCell' = true := by
  intro u hu
  simp only [Rul.cells, List.mem_cons, List.not_mem_nil, or_false] at hu
  rcases hu with rfl | rfl | rfl | rfl | rfl <;> rfl
theorem rul_len (r : Rul) : r.cells.length = 5 := rfl

/-- Of no row no row. -/
def ClPostN (a0 : Option Addr) (m n : Nat) (xs : List Value) (w : World) (e : Ending) (w' : World) : Prop := ∃ a c, e = .returned (.slice a n c) ∧ Sl w.heap.size w' m (.slice a n c) n xs ∧ Below w.heap.size w w' ∧ (a0 = none → a = none ∧ c = 0)
set_option maxHeartbeats 1000000 in
theorem cl_ptN (a : Option Addr) (n c : Nat) (xs : List Value) (w : World) (hs : ∀ w', Below w.heap.size w w' → Src Tryz.prog 10 68 (.slice a n c) n xs w') (ha : a = none → n = 0 ∧ xs = []) (hb : n ≤ 100000) :
    Calls Tryz.prog 123 #[.slice a n c] w (ClPostN a 10 n xs w) := by
  cases a with
  | none =>
    have q22 : ∀ (w : World) (a : Option Addr) (n c n' c' : Nat), (binOp .eql 68 (.slice a n c) (.slice none n' c')).run Tryz.prog w = .ok (.bool a.isNone) w := fun w a n c n' c' => Lib.run_eql_slice_nil w _ _ a n c n' c' Tryz.underlying68
    obtain ⟨rfl, rfl⟩ := ha rfl
    clear hs ha
    go_enter Tryz.func123, Tryz.ntmps123
    go_wp2
    go_ret
    exact ⟨none, 0, rfl, Sl.nil _ _ _, Below.refl _ _, fun _ => ⟨rfl, rfl⟩⟩
  | some ad =>
    refine (cl_pt (some ad) n c xs w hs ha hb).mono fun e w' h => ?_
    obtain ⟨v, h1, h2, h3⟩ := h
    obtain ⟨a', c', hv⟩ := h2.shape
    subst hv
    exact ⟨a', c', h1, h2, h3, fun h => by cases h⟩
/-- A like state, whose rows are its own. -/
def ApPost (a0 : Option Addr) (rs : List Rul) (rn : Nat) (l : List Pv) (n : Nat) (t d k m : Int) (w : World) (e : Ending) (w' : World) : Prop :=
  ∃ ra rc a c, e = .returned (.agg #[.slice ra rn rc, .int .i64 t, .int .i64 d, .slice a n c, .int .i64 k, .int .i64 m]) ∧ Sl w.heap.size w' 5 (.slice ra rn rc) rn (rs.flatMap Rul.cells) ∧ Sl w.heap.size w' 10 (.slice a n c) n (pvs l) ∧ Below w.heap.size w w' ∧ (∀ b, (Value.slice ra rn rc).ownBlock = some b → (Value.slice a n c).ownBlock ≠ some b) ∧ (a0 = none → a = none ∧ c = 0)
set_option maxHeartbeats 4000000 in
theorem mo_apart (ra : Option Addr) (rn rc : Nat) (rs : List Rul) (a : Option Addr) (n c : Nat) (l : List Pv) (t d k m : Int) (w : World) (hru : RowU w ra rs) (hrn : rn = rs.length) (hr : RowP w a l) (hn : n = l.length) (h8 : n ≤ 1000) (hr8 : rn ≤ 10000) :
    Calls Tryz.prog 76 #[.agg #[.slice ra rn rc, .int .i64 t, .int .i64 d, .slice a n c, .int .i64 k, .int .i64 m]] w (ApPost a rs rn l n t d k m w) := by
  have e := fun (w : World) (o : Obj) => (Below.refl w.heap.size w).alloc (Nat.le_refl _) o
  have hA := (At.alloc w [.slice ra rn rc, .int .i64 t, .int .i64 d, .slice a n c, .int .i64 k, .int .i64 m] 70).on (e _ (.cells #[.slice none 0 0, .int .i64 0, .int .i64 0, .slice none 0 0, .int .i64 0, .int .i64 0] 70))
  have hZ := At.alloc (w.alloc (.cells #[.slice ra rn rc, .int .i64 t, .int .i64 d, .slice a n c, .int .i64 k, .int .i64 m] 70)) [.slice none 0 0, .int .i64 0, .int .i64 0, .slice none 0 0, .int .i64 0, .int .i64 0] 70
  rw [World.size_alloc] at hZ
  have hB : Below w.heap.size w ((w.alloc (.cells #[.slice ra rn rc, .int .i64 t, .int .i64 d, .slice a n c, .int .i64 k, .int .i64 m] 70)).alloc (.cells #[.slice none 0 0, .int .i64 0, .int .i64 0, .slice none 0 0, .int .i64 0, .int .i64 0] 70)) := on_below (e _ _) (e _ _)
  have HRU := fun w' (hb : Below w.heap.size w w') => Lib.hid (cl_ru ra rn rc (rs.flatMap Rul.cells) w' (fun w'' hb' => src_rowg Tryz.underlying22 w'' ra rn rc 5 (by omega) Rul.cells rul_len rul_one rs ((hru.below hb).below hb') hrn.symm) (fun hx => by subst hx; have := rowg_none hru; subst this; exact ⟨hrn, rfl⟩) (by omega))
  have HPT := fun w' (hb : Below w.heap.size w w') => Lib.hid (cl_ptN a n c (pvs l) w' (fun w'' hb' => src_pv Tryz.underlying68 w'' a n c l ((hr.on hb).on hb') hn.symm) (fun hx => by subst hx; have := rowg_none hr.row; subst this; exact ⟨hn, rfl⟩) (by omega))
  clear hru hrn hr hn
  go_enter Tryz.func76, Tryz.ntmps76
  go_upto_region 1 with fail
  generalize (w.alloc (.cells #[.slice ra rn rc, .int .i64 t, .int .i64 d, .slice a n c, .int .i64 k, .int .i64 m] 70)).alloc (.cells #[.slice none 0 0, .int .i64 0, .int .i64 0, .slice none 0 0, .int .i64 0, .int .i64 0] 70) = w1 at *
  have hsz1 : w.heap.size + 1 < w1.heap.size := hZ.1
  obtain ⟨-, p0, x0, p1, x1, p2, x2, p3, x3, p4, x4, p5, x5⟩ := hA.cells6
  have HR1 := HRU _ hB
  clear HRU
  go_upto_region 2 with (first | (go_at_call 39; (with_reducible refine HR1.out.mono ?_); intro e2 w2 hY; obtain ⟨v2, rfl, hs2, hb2⟩ := hY; obtain ⟨ra2, rc2, hv2⟩ := hs2.shape; subst hv2; obtain ⟨-, q0, y0, q1, y1, q2, y2, q3, y3, q4, y4, q5, y5⟩ := (hA.on hb2).cells6) | fail)
  have hA3 := (hA.on hb2).set 0 (by simp) (.slice ra2 rn rc2)
  simp only [List.set] at hA3
  have hZ3 := (hZ.on hb2).set_other (p := ⟨w.heap.size, 0, none⟩) (by show w.heap.size ≠ w.heap.size + 1; omega) (.slice ra2 rn rc2)
  have hB3 := (on_below hB hb2).setCell (p := ⟨w.heap.size, 0, none⟩) (Nat.le_refl _) (.slice ra2 rn rc2)
  have hs3 := hs2.set_other (p := ⟨w.heap.size, 0, none⟩) (by show w.heap.size < w1.heap.size; omega) (.slice ra2 rn rc2)
  clear p0 x0 p1 x1 p2 x2 p3 x3 p4 x4 p5 x5 q0 y0 q1 y1 q2 y2 q3 y3 q4 y4 q5 y5 hA hZ hs2 HR1
  have hsz3 : w1.heap.size ≤ (w2.setCell ⟨w.heap.size, 0, none⟩ (.slice ra2 rn rc2)).heap.size := Nat.le_trans hb2.size (by simp [World.setCell])
  generalize w2.setCell ⟨w.heap.size, 0, none⟩ (.slice ra2 rn rc2) = w3 at *
  obtain ⟨-, p0, x0, p1, x1, p2, x2, p3, x3, p4, x4, p5, x5⟩ := hA3.cells6
  have HP3 := HPT _ hB3
  clear HPT
  go_upto_region 3 with (first | (go_at_call 123; (with_reducible refine HP3.out.mono ?_); intro e4 w4 hY; obtain ⟨a4, c4, rfl, hs4, hb4, hnil⟩ := hY; obtain ⟨-, q0, y0, q1, y1, q2, y2, q3, y3, q4, y4, q5, y5⟩ := (hA3.on hb4).cells6) | fail)
  have hA5 := (hA3.on hb4).set 3 (by simp) (.slice a4 n c4)
  simp only [List.set] at hA5
  have hZ5 := (hZ3.on hb4).set_other (p := ⟨w.heap.size, 3, none⟩) (by show w.heap.size ≠ w.heap.size + 1; omega) (.slice a4 n c4)
  have hB5 := (on_below hB3 hb4).setCell (p := ⟨w.heap.size, 3, none⟩) (Nat.le_refl _) (.slice a4 n c4)
  have hs5 := (hs3.onW hb4).set_other (p := ⟨w.heap.size, 3, none⟩) (by show w.heap.size < w1.heap.size; omega) (.slice a4 n c4)
  have hs6 := hs4.set_other (p := ⟨w.heap.size, 3, none⟩) (by show w.heap.size < w3.heap.size; omega) (.slice a4 n c4)
  have hne : ∀ b, (Value.slice ra2 rn rc2).ownBlock = some b → (Value.slice a4 n c4).ownBlock ≠ some b := fun b h1 h2 => by
    have h3 := (hs3.lt b h1).2
    have h4 := (hs4.lt b h2).1
    omega
  clear p0 x0 p1 x1 p2 x2 p3 x3 p4 x4 p5 x5 q0 y0 q1 y1 q2 y2 q3 y3 q4 y4 q5 y5 hA3 hZ3 hs3 hs4 HP3 hB3 hB
  generalize w4.setCell ⟨w.heap.size, 3, none⟩ (.slice a4 n c4) = w5 at *
  obtain ⟨-, p0, x0, p1, x1, p2, x2, p3, x3, p4, x4, p5, x5⟩ := hA5.cells6
  obtain ⟨-, q0, y0, q1, y1, q2, y2, q3, y3, q4, y4, q5, y5⟩ := hZ5.cells6
  have hT := Lib.hid (fun x0 x1 x2 x3 x4 x5 => At.all6 hZ5 x0 x1 x2 x3 x4 x5)
  have hUf := Lib.hid (fun x0 x1 x2 x3 x4 x5 => Upd.all6 (Upd.refl (fun b => b = w.heap.size + 1) w5) (g := w.heap.size + 1) (fun _ => rfl) x0 x1 x2 x3 x4 x5)
  have HNIL := Lib.hid hnil
  clear hnil
  have HFI : Hid (∀ wf, Upd (fun b => b = w.heap.size + 1) w5 wf → ApPost a rs rn l n t d k m w (.returned (.agg #[.slice ra2 rn rc2, .int .i64 t, .int .i64 d, .slice a4 n c4, .int .i64 k, .int .i64 m])) wf) := fun wf hu =>
    ⟨ra2, rc2, a4, c4, rfl, (hs5.upd hu (fun b h1 h2 => by have := (hs5.lt b h1).1; have h2 : b = w.heap.size + 1 := h2; omega)).base (by omega), (hs6.upd hu (fun b h1 h2 => by have := (hs6.lt b h1).1; have h2 : b = w.heap.size + 1 := h2; omega)).base (by omega), hB5.upd hu hB5.size (fun b _ h2 => by have h2 : b = w.heap.size + 1 := h2; omega), hne, HNIL.out⟩
  clear hA5 hZ5 hs5 hs6 hne hB5
  go_wp2_with fail
  refine bodyPost_ret (results_at1 (fn := Tryz.f76) rfl _ rfl (hT.out _ _ _ _ _ _) Tryz.underlying70 rfl (by kernel_rfl)) rfl ?_
  exact HFI.out _ (hUf.out _ _ _ _ _ _)

set_option maxHeartbeats 2000000 in
theorem mo_tick_vain (K : Option Addr → Nat → List R → Prop) (B g : Nat) (ru : Value) (a : Option Addr) (n c : Nat) (l : List Pv) (ps : List Pt) (t d k m x : Int) (w : World) (h : MoS K B w g ru a n c l ps t d k m) (hx : x < 0) :
    Calls Tryz.prog 81 #[.pointer (some ⟨g, 0, none⟩), .int .i64 x] w (MoPost K B g ru a n c ps t d k m (fun b => b = g ∨ (Value.slice a n c).ownBlock = some b) [] w) := by
  have HH := Lib.hid h
  clear h
  go_enter Tryz.func81, Tryz.ntmps81
  go_wp2_with fail
  go_ret
  exact ⟨l, .slice none 0 0, rfl, Sl.nil _ _ _, HH.out, Upd.refl _ _⟩
set_option maxHeartbeats 4000000 in
theorem mo_tick (K : Option Addr → Nat → List R → Prop) (B g : Nat) (ru : Value) (a : Option Addr) (n c : Nat) (l : List Pv) (s : St) (x : Int) (w : World) (h : MoS K B w g ru a n c l s.ps s.timeout s.drift s.clock s.now) (hok : s.Ok) (hx : 0 ≤ x) (hx2 : x ≤ 9223372036854775807) :
    Calls Tryz.prog 81 #[.pointer (some ⟨g, 0, none⟩), .int .i64 x] w (MoPost K B g ru a n c (s.tickS x).ps s.timeout s.drift (s.tickS x).clock (s.tickS x).now (fun b => b = g ∨ (Value.slice a n c).ownBlock = some b) (s.tickE x) w) := by
  have hlen := h.plen
  have hn8 := hok.n
  have HOK : Hid (∀ p ∈ s.ps.map (fun p => p.wait (add s.clock x)), p.Ok) := (hok.tick x).pt
  have HADD := fun wx => Lib.hid (sat_add s.clock x wx hok.ck ⟨by omega, hx2⟩)
  unfold St.tickS St.tickE St.ticked
  obtain ⟨ps, tm, dr, ck, nw⟩ := s
  simp only at *
  generalize add ck x = ck2 at *
  have HLE := Lib.hid hlen
  have hn8' : n ≤ 8 := by omega
  clear hlen hok hn8
  generalize hf : (fun p : Pt => p.wait ck2) = f at *
  have HF : Hid (∀ p : Pt, f p = p.wait ck2) := fun p => by rw [← hf]
  clear hf
  have HADV := fun (l' : List Pv) (wx : World) (h : MoS K B wx g ru a n c l' (ps.map f) tm dr ck2 nw) => Lib.hid (mo_advance K B g ru a n c l' (ps.map f) tm dr ck2 nw wx h HOK.out (by omega))
  have hnx : ¬ x < 0 := by omega
  obtain ⟨h1, hu1⟩ := h.setClock ck2
  obtain ⟨hgl, -, -, -, -, -, -, -, -, p4, x4, -, -⟩ := h.blk.cells6
  go_enter Tryz.func81, Tryz.ntmps81
  go_upto_region 4 with (first | (go_at_call 124; (with_reducible refine (HADD _).out.mono ?_); rintro e2 w2 ⟨rfl, rfl⟩) | fail)
  clear p4 x4 hgl h HADD hnx
  generalize w.setCell ⟨g, 4, none⟩ (.int .i64 ck2) = w1 at *
  have HI0 : MoS K B w1 g ru a n c l (wq f ps 0) tm dr ck2 nw := by rw [wq_zero]; exact h1
  have hu1' : Upd (fun b => b = g ∨ (Value.slice a n c).ownBlock = some b) w w1 := hu1.mono (fun _ _ h => .inl h)
  obtain ⟨hgl, -, -, -, -, -, -, p3, x3, p4, x4, -, -⟩ := h1.blk.cells6
  go_wp2_with fail
  go_loopw [23] (fun i wr => ∃ (q : Nat) (l' : List Pv), q ≤ n ∧ i = .int .i64 q ∧ MoS K B wr g ru a n c l' (wq f ps q) tm dr ck2 nw ∧ Upd (fun b => b = g ∨ (Value.slice a n c).ownBlock = some b) w wr) (fun i _ => n - (intOf i).toNat)
  case atStart => exact ⟨0, l, Nat.zero_le _, rfl, HI0, hu1'⟩
  case round =>
    clear HI0 hu1 hu1' h1 p3 x3 p4 x4 hgl
    obtain ⟨q, l', hq, rfl, hM, hu⟩ := hrel
    obtain ⟨hgl, -, -, -, -, -, -, p3, x3, p4, x4, -, -⟩ := hM.blk.cells6
    by_cases hlt : q < n
    · have hql : q < l'.length := by rw [← hM.len]; exact hlt
      have hqp : q < ps.length := by rw [← HLE.out]; exact hlt
      obtain ⟨b, off, rfl, hBb, hbl, hbg, hfr⟩ := hM.at_ q hql
      have hcell := hM.rowp.cell q hql
      have hpq : l'[q].p = ps[q] := by
        have h1 := wq_at f ps q hqp
        rw [← hM.map, List.getElem?_map, List.getElem?_eq_getElem hql] at h1
        exact Option.some.inj h1
      have hF := HF.out ps[q]
      rw [← hpq] at hF
      have hsm := wq_same f ps q hqp
      have hst := wq_set f ps q hqp
      rw [← hpq] at hsm hst
      have hM1 := fun (o : Obj) => hM.on ((Below.refl wr.heap.size wr).alloc (Nat.le_refl _) o)
      have HPK := fun (o : Obj) (v : Pv) (hv : l'[q] = v) (x : Int) => (hM1 o).poke q 8 hql (by omega) v hv { v.p with is := x } (.int .i64 x) rfl rfl
      have f8 := hfr 8 (by omega)
      have hu2 := fun (o : Obj) => hu.alloc o
      clear hpq hfr
      generalize hv : l'[q] = v at *
      have HV := Lib.hid hv
      clear hv
      obtain ⟨⟨⟨kd, bd, pc, wn, sg⟩, recs, er, rd, is, tl⟩, av, cv⟩ := v
      simp only at hcell hF hsm hst HPK
      obtain ⟨hbb, r0, r1, r2, r3, r4, r5, r6, r7, r8, r9⟩ := hcell
      have hP := At.alloc wr [.int .i64 kd, .int .i64 bd, .int .i64 pc, .int .i64 wn, .int .i64 sg, .slice av recs.length cv, .int .i64 er, .int .i64 rd, .int .i64 is, .int .i64 tl] 141
      have hM2 := hM1 (.cells #[.int .i64 kd, .int .i64 bd, .int .i64 pc, .int .i64 wn, .int .i64 sg, .slice av recs.length cv, .int .i64 er, .int .i64 rd, .int .i64 is, .int .i64 tl] 141)
      have hu3 := hu2 (.cells #[.int .i64 kd, .int .i64 bd, .int .i64 pc, .int .i64 wn, .int .i64 sg, .slice av recs.length cv, .int .i64 er, .int .i64 rd, .int .i64 is, .int .i64 tl] 141)
      have hqi : (q : Int) < (n : Int) := by omega
      clear hM1 hu2 HPK
      go_upto_region 7 with fail
      clear r0 r1 r2 r3 r4 r5 r6 r7 r8 r9 p3 x3 p4 x4 hgl f8 hbb
      generalize wr.alloc (.cells #[.int .i64 kd, .int .i64 bd, .int .i64 pc, .int .i64 wn, .int .i64 sg, .slice av recs.length cv, .int .i64 er, .int .i64 rd, .int .i64 is, .int .i64 tl] 141) = w3 at *
      obtain ⟨-, q0, -, q1, -, q2, -, q3, -, q4, -, q5, -, q6, -, q7, -, q8, -, q9, -⟩ := hP.ten
      obtain ⟨hgl, -, -, -, -, -, -, p3, -, p4, -, -, -⟩ := hM2.blk.cells6
      have hcell := hM2.rowp.cell q hql
      have f8 := (sl_free hM2.row q hlt).2.2 8 (by omega)
      have HPK := fun mm => (hM2.on (on_quiet (w := w3) ⟨mm, rfl⟩)).poke q 8 hql (by omega) _ HV.out { (⟨⟨kd, bd, pc, wn, sg⟩, recs, er, rd, is, tl⟩ : Pt) with is := 1 } (.int .i64 1) rfl rfl
      have HM4 := fun mm => hM2.on (on_quiet (w := w3) ⟨mm, rfl⟩)
      have HU4 := fun mm => hu3.drewN mm
      rw [HV.out] at hcell
      obtain ⟨hbb, r0, r1, r2, r3, r4, r5, r6, r7, r8, r9⟩ := hcell
      by_cases hw : is = 0 ∧ tl ≤ ck2
      · rw [show Pt.wait ⟨⟨kd, bd, pc, wn, sg⟩, recs, er, rd, is, tl⟩ ck2 = ⟨⟨kd, bd, pc, wn, sg⟩, recs, er, rd, 1, tl⟩ from if_pos hw] at hF
        rw [hF] at hst
        obtain ⟨rfl, htl⟩ := hw
        have HST := Lib.hid hst
        have HPKH := fun mm => Lib.hid (HPK mm)
        have HU5 := fun mm => Lib.hid (HU4 mm)
        clear hst hsm hF HPK HM4 hM2 HU4 hu3 hP
        go_quiet (fail)
        all_goals go_wp2_with fail
        all_goals go_roundw
        case rel =>
          refine ⟨q + 1, l'.set q ⟨⟨⟨kd, bd, pc, wn, sg⟩, recs, er, rd, 1, tl⟩, av, cv⟩, by omega, by go_num, ?_, ?_⟩
          · rw [← HST.out]; exact (HPKH _).out.1
          · exact (HU5 _).out.trans (HPKH _).out.2 (fun _ _ h => .inr (by rw [h]; rfl))
        case measure => simp [intOf] <;> omega
      · rw [show Pt.wait ⟨⟨kd, bd, pc, wn, sg⟩, recs, er, rd, is, tl⟩ ck2 = ⟨⟨kd, bd, pc, wn, sg⟩, recs, er, rd, is, tl⟩ from if_neg hw] at hF
        have hsm' := hsm hF
        rw [← hsm'] at HM4
        have HM5 := fun mm => Lib.hid (HM4 mm)
        have HU5 := fun mm => Lib.hid (HU4 mm)
        clear hst hsm hF HPK HM4 hM2 HU4 hu3 hP hsm'
        by_cases h0 : is = 0
        · subst h0
          have htl : ck2 < tl := by omega
          have htl2 : decide (tl ≤ ck2) = false := decide_eq_false (by omega)
          clear hw
          go_quiet (fail)
          all_goals go_wp2_with fail
          all_goals go_roundw
          case rel => exact ⟨q + 1, _, by omega, by go_num, (HM5 _).out, (HU5 _).out⟩
          case measure => simp [intOf] <;> omega
        · have h0' : (is == 0) = false := by rw [beq_eq_false_iff_ne]; exact h0
          clear hw h0
          go_quiet (fail)
          all_goals go_wp2_with fail
          all_goals go_roundw
          case rel => exact ⟨q + 1, _, by omega, by go_num, (HM5 _).out, (HU5 _).out⟩
          case measure => simp [intOf] <;> omega
    · obtain rfl : q = n := by omega
      have hwl : wq f ps q = ps.map f := by rw [HLE.out]; exact wq_all f ps
      rw [hwl] at hM
      have HA5 := HADV l' wr hM
      have hM' := Lib.hid hM
      have hu' := Lib.hid hu
      clear hM hu HADV
      go_wp2_with (first | (go_at_call 80; (with_reducible refine HA5.out.mono ?_); intro e5 w5 hY; obtain ⟨l5, r5, rfl, hs5, hM5, hu5⟩ := hY) | fail)
      go_ret
      exact ⟨l5, r5, rfl, hs5.base hu'.out.size, hM5, hu'.out.trans hu5 (fun _ _ h => .inl h)⟩
end Go.Proofs.YtoecikeleoaecaaGreat
