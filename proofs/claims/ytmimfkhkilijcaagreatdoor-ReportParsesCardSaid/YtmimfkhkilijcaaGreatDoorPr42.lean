/- RepPlay: what is reached of them. -/
import Derived.Test.YtmimfkhkilijcaaGreatDoorPr12
import Derived.Test.YtmimfkhkilijcaaGreatDoorPr15
import Derived.Test.YtmimfkhkilijcaaGreatDoorPr32
import Derived.Test.YtmimfkhkilijcaaGreatDoorPr34
import Derived.Test.YtmimfkhkilijcaaGreatDoorPr39
import Derived.Test.YtmimfkhkilijcaaGreatDoorPr40
import Derived.Test.YtmimfkhkilijcaaGreatDoorPr41
namespace Go.Proofs.YtmimfkhkilijcaaGreatDoor
set_option maxRecDepth 4000
open Go.ChangeShapes Go.WideShapes Go.ChangeAt Go.RowKit
open PHist PRing PSat PClamp PBound PFrame PVar PCrc PSign PTree PEv
open Go.Lib (itoa)
set_option linter.unusedVariables false
set_option linter.unusedSimpArgs false

/-- A name and numbers, ended. -/
def lineT (name : List UInt8) (ns : List Int) : List UInt8 := PWord.lineOf name ns ++ [10]
abbrev tPart : List UInt8 := [112, 97, 114, 116]
abbrev tEnd : List UInt8 := [101, 110, 100]
abbrev tError : List UInt8 := [101, 114, 114, 111, 114]
def partsT (s : St) : Nat → List UInt8
  | 0 => []
  | k + 1 => partsT s k ++ lineT tPart [(k : Int), (pat s.ps k).is, ((pat s.ps k).read : Int), (pat s.ps k).mark]
def outT (s : St) (evs : List Ev) (n : Nat) : List UInt8 := etexts evs ++ partsT s n ++ lineT tEnd [s.now, s.clock, (lates evs : Int)]
def playT (t d : Int) (rs : List Rul) (ls : List (List UInt8)) (cs : List (Bool × Int)) : List UInt8 :=
  if nerr rs t d ls.length = 0 then outT ((St.new t d rs ls).run cs) (St.newE t rs ls ++ (St.new t d rs ls).runE cs) rs.length else lineT tError [nerr rs t d ls.length]

theorem lineT_len {name : List UInt8} {ns : List Int} (hn : name.length ≤ 21) (hb : ∀ n ∈ ns, in64 n) : (lineT name ns).length ≤ (ns.length + 1) * 22 + 1 := by
  unfold lineT
  have := PWord.lineOf_len name ns hn hb
  rw [List.length_append, List.length_singleton]
  omega
theorem etexts_max : ∀ (l : List Ev), (∀ v ∈ l, Fine v) → (etexts l).length ≤ l.length * 4101
  | [], _ => by simp [etexts]
  | v :: l, h => by
    have h1 := etexts_max l (fun x hx => h x (by simp [hx]))
    obtain ⟨h2, h3⟩ := h v (by simp)
    have h4 := eline_len v h2
    have : etexts (v :: l) = (eline v ++ [10]) ++ etexts l := rfl
    rw [this]
    simp only [List.length_append, List.length_cons, List.length_nil]
    omega
theorem line1 (x0 : Int) (h0 : in64 x0) (w : World) (he : EnvW w) :
    Calls Tryz.prog 47 #[.string ⟨#[101, 114, 114, 111, 114]⟩, .slice (some ⟨w.heap.size, 0, none⟩) 1 1] (w.alloc (.cells #[.int .i64 x0] 3)) fun e w' => e = .returned (.string (bstr (lineT tError [x0]))) ∧ Below w.heap.size w w' := by
  have hb : Below w.heap.size w (w.alloc (.cells (iv [x0]).toArray 3)) := (Below.refl _ _).alloc (Nat.le_refl _) _
  have hr := rowi_made w [x0] 3 (by unfold maxLen; simp) (fun x hx => by rw [List.mem_singleton.1 hx]; exact h0)
  refine (re_line tError [x0] (some ⟨w.heap.size, 0, none⟩) 1 1 _ (he.on hb) hr rfl (by omega) (by decide)).mono ?_
  rintro e w' ⟨rfl, h⟩
  exact ⟨rfl, on_below hb h⟩
theorem line3 (x0 x1 x2 : Int) (h0 : in64 x0) (h1 : in64 x1) (h2 : in64 x2) (w : World) (he : EnvW w) :
    Calls Tryz.prog 47 #[.string ⟨#[101, 110, 100]⟩, .slice (some ⟨w.heap.size, 0, none⟩) 3 3] (w.alloc (.cells #[.int .i64 x0, .int .i64 x1, .int .i64 x2] 3)) fun e w' => e = .returned (.string (bstr (lineT tEnd [x0, x1, x2]))) ∧ Below w.heap.size w w' := by
  have hb : Below w.heap.size w (w.alloc (.cells (iv [x0, x1, x2]).toArray 3)) := (Below.refl _ _).alloc (Nat.le_refl _) _
  have hr := rowi_made w [x0, x1, x2] 3 (by unfold maxLen; simp) (fun x hx => by
    simp only [List.mem_cons, List.not_mem_nil, or_false] at hx
    rcases hx with rfl | rfl | rfl <;> assumption)
  refine (re_line tEnd [x0, x1, x2] (some ⟨w.heap.size, 0, none⟩) 3 3 _ (he.on hb) hr rfl (by omega) (by decide)).mono ?_
  rintro e w' ⟨rfl, h⟩
  exact ⟨rfl, on_below hb h⟩
theorem line4 (x0 x1 x2 x3 : Int) (h0 : in64 x0) (h1 : in64 x1) (h2 : in64 x2) (h3 : in64 x3) (w : World) (he : EnvW w) :
    Calls Tryz.prog 47 #[.string ⟨#[112, 97, 114, 116]⟩, .slice (some ⟨w.heap.size, 0, none⟩) 4 4] (w.alloc (.cells #[.int .i64 x0, .int .i64 x1, .int .i64 x2, .int .i64 x3] 3)) fun e w' => e = .returned (.string (bstr (lineT tPart [x0, x1, x2, x3]))) ∧ Below w.heap.size w w' := by
  have hb : Below w.heap.size w (w.alloc (.cells (iv [x0, x1, x2, x3]).toArray 3)) := (Below.refl _ _).alloc (Nat.le_refl _) _
  have hr := rowi_made w [x0, x1, x2, x3] 3 (by unfold maxLen; simp) (fun x hx => by
    simp only [List.mem_cons, List.not_mem_nil, or_false] at hx
    rcases hx with rfl | rfl | rfl | rfl <;> assumption)
  refine (re_line tPart [x0, x1, x2, x3] (some ⟨w.heap.size, 0, none⟩) 4 4 _ (he.on hb) hr rfl (by omega) (by decide)).mono ?_
  rintro e w' ⟨rfl, h⟩
  exact ⟨rfl, on_below hb h⟩
theorem pt_fits {s : St} (h : s.Ok) {k : Nat} (hk : k < s.ps.length) : in64 (pat s.ps k).is ∧ in64 ((pat s.ps k).read : Int) ∧ in64 (pat s.ps k).mark := by
  have hp := h.pt _ (pat_mem hk)
  have h1 := hp.lo
  have h2 := hp.hi
  have h3 := hp.rd
  have h4 := hp.few
  exact ⟨by unfold in64; omega, by unfold in64; omega, mark_in hp⟩
theorem partsT_len {s : St} (h : s.Ok) : ∀ k, k ≤ s.ps.length → (partsT s k).length ≤ k * 111
  | 0, _ => by simp [partsT]
  | k + 1, hk => by
    have h1 := partsT_len h k (by omega)
    obtain ⟨f1, f2, f3⟩ := pt_fits h (show k < s.ps.length by omega)
    have h8 := h.n
    have h2 := lineT_len (name := tPart) (ns := [(k : Int), (pat s.ps k).is, ((pat s.ps k).read : Int), (pat s.ps k).mark]) (by decide) (fun x hx => by
      simp only [List.mem_cons, List.not_mem_nil, or_false] at hx
      rcases hx with rfl | rfl | rfl | rfl
      · unfold in64; omega
      · exact f1
      · exact f2
      · exact f3)
    unfold partsT
    rw [List.length_append, Nat.succ_mul]
    simp only [List.length_cons, List.length_nil] at h2
    omega
theorem case_okR {rs : List Rul} {t d : Int} {ls : List ByteArray} {m : Nat} (hm : m = ls.length) (hz : nerr rs t d m = 0) (h8 : m ≤ 8) (hf : ∀ r ∈ rs, r.Fits) (ht : in64 t) (hd : in64 d) (hs : ∀ s ∈ ls, s.size ≤ 400) : (St.new t d rs (ls.map fun s => s.data.toList)).Ok := by
  obtain ⟨hc0, hmn⟩ := nerr_zero hz
  have ht1 := ccheck_t hc0
  exact new_ok (by rw [List.length_map]; omega) (by omega) (fun r hr => ⟨ccheck_ok hc0 r hr, hf r hr⟩) (fun l hl => by
    obtain ⟨s, hs', rfl⟩ := List.mem_map.1 hl
    exact hs s hs') ⟨ht1.2.1, ht.2⟩ ⟨ht1.2.2, hd.2⟩
section
variable {w0 w : World} {tag : Nat → Nat} {W : Nat → Nat → Prop} {ev : Value} {V : SrcV} {g : Nat} {s : St} {evs : List Ev} {beg : Nat}
theorem SrcI.tl_count (h : SrcI w0 w tag W ev V g s evs beg) (i : Nat) (hi : i < s.ps.length) (z : Nat) (hz : (pat s.ps i).read = z) : Calls Tryz.prog 62 #[.pointer (some ⟨g, 0, none⟩), .int .i64 i] w fun e w' => e = .returned (.int .i64 z) ∧ w = w' :=
  so_count tag W ev V g _ i _ w h.src (by rw [if_pos ⟨by omega, by show (i : Int) < (s.ps.length : Nat); omega⟩, Int.toNat_natCast, ← hz]; rfl)
theorem SrcI.tl_status (h : SrcI w0 w tag W ev V g s evs beg) (i : Nat) (hi : i < s.ps.length) (z : Int) (hz : (pat s.ps i).is = z) : Calls Tryz.prog 61 #[.pointer (some ⟨g, 0, none⟩), .int .i64 i] w fun e w' => e = .returned (.int .i64 z) ∧ w = w' := by
  rw [← hz]; exact h.status i hi
theorem SrcI.tl_mark (h : SrcI w0 w tag W ev V g s evs beg) (i : Nat) (hi : i < s.ps.length) (z : Int) (hz : (pat s.ps i).mark = z) : Calls Tryz.prog 63 #[.pointer (some ⟨g, 0, none⟩), .int .i64 i] w fun e w' => e = .returned (.int .i64 z) ∧ w = w' :=
  so_mark tag W ev V g _ i _ w h.src (by rw [if_pos ⟨by omega, by show (i : Int) < (s.ps.length : Nat); omega⟩, Int.toNat_natCast, ← hz]; rfl)
theorem SrcI.tl_now (h : SrcI w0 w tag W ev V g s evs beg) : Calls Tryz.prog 64 #[.pointer (some ⟨g, 0, none⟩)] w fun e w' => e = .returned (.int .i64 s.now) ∧ w = w' := so_now tag W ev V g _ w h.src
theorem SrcI.tl_time (h : SrcI w0 w tag W ev V g s evs beg) : Calls Tryz.prog 65 #[.pointer (some ⟨g, 0, none⟩)] w fun e w' => e = .returned (.int .i64 s.clock) ∧ w = w' := so_time tag W ev V g _ w h.src
end
theorem rcheck_in (r : Rul) : in64 (rcheck r) := by
  unfold rcheck in64
  (repeat' split) <;> omega
theorem firstErr_in : ∀ rs : List Rul, in64 (firstErr rs)
  | [] => by unfold firstErr in64; omega
  | r :: rs => by
    unfold firstErr
    split
    · exact rcheck_in r
    · exact firstErr_in rs
theorem nerr_in (rs : List Rul) (t d : Int) (m : Nat) : in64 (nerr rs t d m) := by
  have h := firstErr_in rs
  unfold nerr ccheck
  (repeat' split) <;> first | exact h | (unfold in64; omega)
set_option maxRecDepth 100000 in
set_option maxHeartbeats 8000000 in
theorem re_play {a : Option Addr} {n c : Nat} {t d : Int} {b : Option Addr} {m c2 : Nat} {q : Option Addr} {nq c3 : Nat} {rs : List Rul} {ls : List ByteArray} {cs : List (Bool × Int)} (w : World) (he : EnvE w) (hC : CaseC w a n c t d b m c2 q nq c3 rs ls cs) (hS : SmallC n m nq ls) (T : List UInt8) (hT : playT t d rs (ls.map fun s => s.data.toList) cs = T) :
    Calls Tryz.prog 24 #[.agg #[.slice a n c, .int .i64 t, .int .i64 d, .slice b m c2, .slice q nq c3]] w fun e w' => e = .returned (.string (bstr T)) ∧ Below w.heap.size w w' := by
  obtain ⟨hm8, hnq, hn5, h400⟩ := hS
  have hbx : Below w.heap.size w (w.alloc (.cells #[.slice a n c, .int .i64 t, .int .i64 d, .slice b m c2, .slice q nq c3] 33)) := (Below.refl _ _).alloc (Nat.le_refl _) _
  have hA0 := At.alloc w [.slice a n c, .int .i64 t, .int .i64 d, .slice b m c2, .slice q nq c3] 33
  have hC0 := hC.on hbx
  have he0 := he.on hbx
  have hsz : w.heap.size < (w.alloc (.cells #[.slice a n c, .int .i64 t, .int .i64 d, .slice b m c2, .slice q nq c3] 33)).heap.size := hA0.1
  have hll : (ls.map fun s => s.data.toList).length = m := by rw [List.length_map]; exact hC.hm.symm
  unfold playT at hT
  rw [hll] at hT
  obtain ⟨w0, hw0⟩ : ∃ w0, w.alloc (.cells #[.slice a n c, .int .i64 t, .int .i64 d, .slice b m c2, .slice q nq c3] 33) = w0 := ⟨_, rfl⟩
  rw [hw0] at hbx hA0 hC0 he0 hsz
  have HA := fun wx (hx : Below w0.heap.size w0 wx) => At.five (hA0.below hx hsz)
  obtain ⟨hg, y0, -, y1, -, y2, -, y3, -, y4, -⟩ := HA w0 (Below.refl _ _)
  by_cases hz : nerr rs t d m = 0
  · rw [if_pos hz] at hT
    have HN := Lib.hid (case_new rs t d ls a n c b m c2 w0 w0 (Below.refl _ _) hC0.hru hC0.hlo hC0.hn hC0.hm hz hm8 hC0.hfit hC0.ht hC0.hd h400)
    have hpl := new_plen (d := d) hC0.hm hz
    obtain ⟨hcc, hmn⟩ := nerr_zero hz
    have hf0 := fine_new (t := t) (rs := rs) (ls := ls.map fun s => s.data.toList) (by rw [hll]; exact hmn) (by rw [← hmn]; exact hm8) (fun r hr => ⟨ccheck_ok hcc r hr, hC0.hfit r hr⟩) (fun l hl => by
      obtain ⟨s, hs', rfl⟩ := List.mem_map.1 hl
      exact h400 s hs') ⟨(ccheck_t hcc).2.1, hC0.ht.2⟩
    have hel := newE_len t rs (ls.map fun s => s.data.toList)
    have hnm : n = m := by rw [hC0.hn, hmn]
    subst hnm
    rw [← hmn] at hT hel
    generalize hs0 : St.new t d rs (ls.map fun s => s.data.toList) = s0 at *
    generalize St.newE t rs (ls.map fun s => s.data.toList) = l0 at *
    have HL : Hid (l0.length ≤ 9) := by show l0.length ≤ 9; omega
    have HT := Lib.hid hT
    have HF0 := Lib.hid hf0
    have HP0 := Lib.hid hpl
    have HE0 := Lib.hid he0
    have HOK := Lib.hid (case_okR hC0.hm hz hm8 hC0.hfit hC0.ht hC0.hd h400)
    rw [hs0] at HOK
    have HMN := Lib.hid hmn
    clear hT hf0 hz hcc hel hll hs0 he hmn hpl
    go_enter Tryz.func24, Tryz.ntmps24
    go_wp2_with (first | (go_at_call 57; (with_reducible refine HN.out.mono ?_); intro e w1 h1; obtain ⟨tag, W, ev, V, g, rfl, hI, hb1⟩ := h1) | fail)
    clear hw0
    obtain ⟨-, x0, -, x1, -, x2, -, x3, -, x4, -⟩ := HA w1 hb1
    clear y0 y1 y2 y3 y4
    go_wp2
    go_loopw [26] (fun i wr => ∃ k : Nat, k ≤ nq ∧ i = .int .i64 k ∧ ∃ tag W ev, SrcI w0 wr tag W ev V g (s0.run (cs.take k)) (l0 ++ s0.runE (cs.take k)) l0.length) (fun i _ => nq - (intOf i).toNat)
    case atStart =>
      refine ⟨0, Nat.zero_le _, rfl, tag, W, ev, ?_⟩
      show SrcI w0 w1 tag W ev V g s0 (l0 ++ []) l0.length
      rw [List.append_nil]
      exact hI
    case round =>
      clear hI HN x0 x1 x2 x3 x4
      obtain ⟨k, hk, rfl, tag, W, ev, hI⟩ := hrel
      by_cases hlt : k < nq
      · have hkc : k < cs.length := by rw [← hC0.hnq]; exact hlt
        have hrow := (hC0.on hI.new).hch
        obtain ⟨bq, offq, hq', -, -⟩ := hrow.at_ k hkc
        subst hq'
        obtain ⟨hbq, r0, r1⟩ := RowC.cells hrow k hkc
        have hin := hC0.hci _ (List.getElem_mem hkc)
        have hrl := runE_len (cs.take k) s0
        rw [List.length_take] at hrl
        have hel : (l0 ++ s0.runE (cs.take k)).length ≤ 90000 := by rw [List.length_append]; have := HL.out; omega
        have HS1 := Lib.hid (run_take s0 cs k hkc)
        have HE1 := Lib.hid (runE_take s0 cs k hkc)
        generalize hck : cs[k] = x at *
        have HCK := Lib.hid hck
        clear hck hrow
        obtain ⟨ct, cn⟩ := x
        simp only at r0 r1 hin
        have hba : Below wr.heap.size wr (wr.alloc (.cells #[.bool ct, .int .i64 cn] 50)) := (Below.refl _ _).alloc (Nat.le_refl _) _
        have hI2 := hI.on hba
        have HD := Lib.hid (so_do tag W ev V g _ _ _ ct cn _ hI2.src hI2.ok hin hel)
        clear hrl hel hba
        go_wp2_with (first | (go_at_call 58; (with_reducible refine HD.out.mono ?_); intro e w2 hD; obtain ⟨v, tag2, W2, ev2, rfl, -, hI3, -, -⟩ := hI2.did hD))
        go_roundw
        case rel =>
          refine ⟨k + 1, by omega, by go_num, tag2, W2, ev2, ?_⟩
          rw [HS1.out, HE1.out, ← List.append_assoc]
          exact hI3
        case measure => simp [intOf]; omega
      · obtain rfl : k = nq := by omega
        have hrl := runE_len cs s0
        have hck : cs.take k = cs := List.take_of_length_le (by rw [← hC0.hnq]; exact Nat.le_refl _)
        rw [hck] at hI
        have hel : (l0 ++ s0.runE cs).length ≤ 369 := by rw [List.length_append]; have := HL.out; have := hC0.hnq; omega
        have HE := Lib.hid (so_events tag W ev V g _ wr hI.src (by show (l0 ++ s0.runE cs).length ≤ 100000; omega))
        rw [show (loOf (s0.run cs) (l0 ++ s0.runE cs) l0.length).evs = l0 ++ s0.runE cs from rfl] at HE
        have hfin : ∀ v ∈ l0 ++ s0.runE cs, Fine v := fun v hv => by
          rcases List.mem_append.1 hv with hv | hv
          · exact HF0.out v hv
          · exact fine_run cs HOK.out v hv
        have hsr := HOK.out.run cs
        have hpl : (s0.run cs).ps.length = n := by rw [run_len]; exact HP0.out
        have hT := HT.out
        have HH := Lib.hid hC0.hnq
        clear hck hrl HL HF0
        generalize s0.run cs = s at *
        generalize l0 ++ s0.runE cs = L at *
        obtain ⟨N, hN⟩ : ∃ N, L.length = N := ⟨_, rfl⟩
        rw [hN] at HE hel
        have hmx := etexts_max L hfin
        rw [hN] at hmx
        have hpt := fun k hk => partsT_len hsr k hk
        have hlt9 := lates_le L
        rw [hN] at hlt9
        have HFN := Lib.hid hfin
        have HNN := Lib.hid hN
        have HPT := Lib.hid hpt
        have HSR := Lib.hid hsr
        have HPL := Lib.hid hpl
        have HTT := Lib.hid hT
        clear hfin hN hpt hsr hpl hT HT HP0 HOK
        go_wp2_with (first | (go_at_call 59; (with_reducible refine HE.out.mono ?_); intro e w3 h3; obtain ⟨v, rfl, q1, q2⟩ := h3; obtain ⟨hnl, aE, cE, rfl, hE⟩ := rowe_of_sl q1) | fail)
        have hb3 := on_below hI.new q2
        have hI3 := hI.on q2
        have hwz := b_zero w3
        have hwb : Below w3.heap.size w3 (w3.alloc (.cells #[.pointer none, .slice none 0 0] 81)) := (Below.refl _ _).alloc (Nat.le_refl _) _
        have hw3 := hb3.size
        have HTX := Lib.hid (ev_text aE N cE L (w3.alloc (.cells #[.pointer none, .slice none 0 0] 81)) ((HE0.out.on hb3).on hwb) (by have := hE.on hwb; exact this) HNN.out.symm (by omega) (fun v hv => ⟨(HFN.out v hv).1, Nat.le_trans (HFN.out v hv).2 (by omega)⟩) (by omega))
        have HW1 := Lib.hid (fun w' h hB => b_write w3.heap.size w3.heap.size [] (bstr (etexts L)) w' h (by rw [tx_size]; simp only [List.length_nil]; omega) hB)
        have HWZ := Lib.hid hwz
        have HWB := Lib.hid hwb
        rw [HNN.out]
        clear HE hI hwz q1 hnl
        go_wp2_with (first | (go_at_call 60; (with_reducible refine HTX.out.mono ?_); rintro e w4 ⟨rfl, hb4⟩; have hB4 := bld_on HWZ.out hb4; have hc4 := on_below HWB.out hb4) | (go_at_call 36; (with_reducible refine (HW1.out _ hB4 hc4.size).mono ?_); rintro e w5 ⟨rfl, hB5, hq5, -⟩; have hc5 := hc4.trans hq5; obtain ⟨-, x0, -, x1, -, x2, -, x3, -, x4, -⟩ := HA w5 (on_below hb3 hc5)) | fail)
        have hBL : Bld w3.heap.size w3.heap.size (etexts L ++ partsT s 0) w5 := by
          show Bld _ _ (etexts L ++ []) w5
          rw [List.append_nil]
          exact hB5
        clear HTX HW1 hB4 hc4 hb4 hB5 hq5
        go_loopw [43] (fun i wr => ∃ k : Nat, k ≤ n ∧ i = .int .i64 k ∧ Bld w3.heap.size w3.heap.size (etexts L ++ partsT s k) wr ∧ Below w3.heap.size w3 wr) (fun i _ => n - (intOf i).toNat)
        case atStart => exact ⟨0, Nat.zero_le _, rfl, hBL, hc5⟩
        case round =>
          clear hBL hc5 x0 x1 x2 x3 x4
          obtain ⟨j, hj, rfl, hbl, hb⟩ := hrel
          have hIr := hI3.on hb
          have her := (HE0.out.on hb3).on hb
          have hwB := hb.size
          by_cases hjl : j < n
          · have hjp : j < s.ps.length := by rw [HPL.out]; exact hjl
            obtain ⟨f1, f2, f3⟩ := pt_fits HSR.out hjp
            have hpl1 := HPT.out (j + 1) hjp
            obtain ⟨X, hX⟩ : ∃ X, etexts L ++ partsT s j = X := ⟨_, rfl⟩
            have hXl : X.length ≤ 1514175 := by rw [← hX, List.length_append]; have := HPT.out j (by omega); omega
            have hnx : etexts L ++ partsT s (j + 1) = X ++ lineT tPart [(j : Int), (pat s.ps j).is, ((pat s.ps j).read : Int), (pat s.ps j).mark] := by rw [← hX, List.append_assoc]; rfl
            have hll := lineT_len (name := tPart) (ns := [(j : Int), (pat s.ps j).is, ((pat s.ps j).read : Int), (pat s.ps j).mark]) (by decide) (fun x hx => by
              simp only [List.mem_cons, List.not_mem_nil, or_false] at hx
              rcases hx with rfl | rfl | rfl | rfl
              · unfold in64; omega
              · exact f1
              · exact f2
              · exact f3)
            simp only [List.length_cons, List.length_nil] at hll
            have HST := fun z hz => Lib.hid (hIr.tl_status j hjp z hz)
            have HCN := fun z hz => Lib.hid (hIr.tl_count j hjp z hz)
            have HMK := fun z hz => Lib.hid (hIr.tl_mark j hjp z hz)
            have HLN := Lib.hid (line4 (j : Int) (pat s.ps j).is ((pat s.ps j).read : Int) (pat s.ps j).mark (by unfold in64; omega) f1 f2 f3 wr her.wd)
            rw [hX] at hbl
            have HNX := Lib.hid hnx
            clear hnx hX hpl1 f1 f2 f3
            generalize lineT tPart [(j : Int), (pat s.ps j).is, ((pat s.ps j).read : Int), (pat s.ps j).mark] = LT at *
            have HST := HST _ rfl
            have HCN := HCN _ rfl
            have HMK := HMK _ rfl
            generalize (pat s.ps j).is = z1 at *
            generalize (pat s.ps j).read = z2 at *
            generalize (pat s.ps j).mark = z3 at *
            have HW := Lib.hid (fun w' h hB => b_write w3.heap.size w3.heap.size X (bstr LT) w' h (by rw [tx_size]; omega) hB)
            go_wp2_with (first | (go_at_call 61; (with_reducible refine HST.out.mono ?_); rintro e w6 ⟨rfl, rfl⟩) | (go_at_call 62; (with_reducible refine HCN.out.mono ?_); rintro e w6 ⟨rfl, rfl⟩) | (go_at_call 63; (with_reducible refine HMK.out.mono ?_); rintro e w6 ⟨rfl, rfl⟩) | (go_at_call 47; (with_reducible refine HLN.out.mono ?_); rintro e w7 ⟨rfl, hb7⟩; have hB7 := bld_on hbl hb7; have hc7 := on_below hb hb7) | (go_at_call 36; (with_reducible refine (HW.out _ hB7 hc7.size).mono ?_); rintro e w8 ⟨rfl, hB8, hq8, -⟩) | fail)
            go_roundw
            case rel => exact ⟨j + 1, by omega, by go_num, by rw [HNX.out]; exact hB8, hc7.trans hq8⟩
            case measure => simp [intOf]; omega
          · obtain rfl : j = n := by omega
            obtain ⟨X, hX⟩ : ∃ X, etexts L ++ partsT s j = X := ⟨_, rfl⟩
            have hXl : X.length ≤ 1514175 := by rw [← hX, List.length_append]; have := HPT.out j (by rw [HPL.out]; exact Nat.le_refl _); have := hj; omega
            have hTX := HTT.out
            unfold outT at hTX
            rw [hX] at hTX
            rw [hX] at hbl
            have hnw := HSR.out.nw
            have hck := HSR.out.ck
            obtain ⟨la, hla⟩ : ∃ la, lates L = la := ⟨_, rfl⟩
            rw [hla] at hlt9 hTX
            have hll := lineT_len (name := tEnd) (ns := [s.now, s.clock, (la : Int)]) (by decide) (fun x hx => by
              simp only [List.mem_cons, List.not_mem_nil, or_false] at hx
              rcases hx with rfl | rfl | rfl
              · exact hnw
              · exact hck
              · unfold in64; omega)
            simp only [List.length_cons, List.length_nil] at hll
            have HNW := Lib.hid hIr.tl_now
            have HTM := Lib.hid hIr.tl_time
            have HLA := Lib.hid (ju_lates aE N cE L wr (hE.on hb) HNN.out.symm (by omega) la hla)
            have HLN := fun wx hx => Lib.hid (line3 s.now s.clock (la : Int) hnw hck (by unfold in64; omega) wx hx)
            have HTX := Lib.hid hTX
            clear hTX hX hla hnw hck
            generalize lineT tEnd [s.now, s.clock, (la : Int)] = LT at *
            generalize s.now = z1 at *
            generalize s.clock = z2 at *
            have HW := Lib.hid (fun w' h hB => b_write w3.heap.size w3.heap.size X (bstr LT) w' h (by rw [tx_size]; omega) hB)
            have HS := Lib.hid (fun w' h hB => b_text w3.heap.size w3.heap.size (X ++ LT) w' h hB)
            go_wp2_with (first | (go_at_call 64; (with_reducible refine HNW.out.mono ?_); rintro e w6 ⟨rfl, rfl⟩) | (go_at_call 65; (with_reducible refine HTM.out.mono ?_); rintro e w6 ⟨rfl, rfl⟩) | (go_at_call 35; (with_reducible refine HLA.out.mono ?_); rintro e w6 ⟨rfl, hb6⟩; have HL6 := HLN w6 (her.on hb6).wd; have hbl6 := bld_on hbl hb6; have hc6 := on_below hb hb6) | (go_at_call 47; (with_reducible refine HL6.out.mono ?_); rintro e w7 ⟨rfl, hb7⟩; have hB7 := bld_on hbl6 hb7; have hc7 := on_below hc6 hb7) | (go_at_call 36; (with_reducible refine (HW.out _ hB7 hc7.size).mono ?_); rintro e w8 ⟨rfl, hB8, hq8, -⟩; have hc8 := hc7.trans hq8) | (go_at_call 40; (with_reducible refine (HS.out _ hB8 hc8.size).mono ?_); rintro e w9 ⟨rfl, hb9⟩) | fail)
            go_ret
            exact ⟨by rw [← HTX.out]; rfl, on_below hbx (on_below hb3 (hc8.trans hb9))⟩
  · rw [if_neg hz] at hT
    have hin := nerr_in rs t d m
    obtain ⟨z, hzz⟩ : ∃ z, nerr rs t d m = z := ⟨_, rfl⟩
    have HN := Lib.hid (so_new_none rs t d ls a n c b m c2 w0 hC0.hru hC0.hn (by omega) hC0.hm z hzz (by rw [← hzz]; exact hz))
    rw [hzz] at hT hin hz
    have hz0 : (z != 0) = true := by rw [bne_iff_ne]; exact hz
    subst hT
    have HL1 := fun wx (hx : EnvW wx) => Lib.hid (line1 z hin wx hx)
    clear hzz hz
    go_enter Tryz.func24, Tryz.ntmps24
    go_wp2_with (first | (go_at_call 57; (with_reducible refine HN.out.mono ?_); rintro e w1 ⟨rfl, hb1⟩) | (go_at_call 47; (with_reducible refine (HL1 w1 (he0.on hb1).wd).out.mono ?_); rintro e w2 ⟨rfl, hb2⟩) | fail)
    go_ret
    exact ⟨rfl, on_below hbx (on_below hb1 hb2)⟩
end Go.Proofs.YtmimfkhkilijcaaGreatDoor
