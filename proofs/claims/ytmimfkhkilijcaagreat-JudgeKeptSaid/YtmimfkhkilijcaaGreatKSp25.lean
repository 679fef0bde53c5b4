/- choice: a poll, a tick, and rounds (no words). -/
import Derived.Test.YtmimfkhkilijcaaGreatKSrcA
import Derived.Test.YtmimfkhkilijcaaGreatKBase
import Derived.Laws.MakeOwn
import Derived.Deep.LoopGhost
import Derived.Test.YtmimfkhkilijcaaGreatKJuP
import Derived.Test.YtmimfkhkilijcaaGreatKSrcC
import Derived.Test.YtmimfkhkilijcaaGreatKJuC
import Derived.Test.YtmimfkhkilijcaaGreatKJuD
import Derived.Test.YtmimfkhkilijcaaGreatKFrame
import Derived.Test.YtmimfkhkilijcaaGreatCut
import Derived.Deep.RegionWith
namespace Go.Proofs.YtmimfkhkilijcaaGreat
set_option maxRecDepth 4000
open Go.ChangeShapes Go.WideShapes Go.ChangeAt Go.RowKit
set_option linter.unusedVariables false
set_option linter.unusedSimpArgs false

set_option maxHeartbeats 1000000 in
theorem ch_poll (n : Int) (w : World) : Calls Tryz.prog 33 #[.int .i64 n] w fun e w' => e = .returned (.agg #[.bool false, .int .i64 n]) ∧ Below w.heap.size w w' := by
  have hb0 : Below w.heap.size w (w.alloc (.cells #[.bool false, .int .i64 n] 44)) := (Below.refl _ _).alloc (Nat.le_refl _) _
  obtain ⟨hg, c0, z0, c1, z1⟩ := (At.alloc w [.bool false, .int .i64 n] 44).two
  go_enter Tryz.func33, Tryz.ntmps33
  go_wp2
  exact bodyPost_ret (v := .agg #[.bool false, .int .i64 n]) (by simp [results, Tryz.results33, go_sem]) rfl ⟨rfl, hb0⟩
set_option maxHeartbeats 1000000 in
theorem ch_tick (n : Int) (w : World) : Calls Tryz.prog 32 #[.int .i64 n] w fun e w' => e = .returned (.agg #[.bool true, .int .i64 n]) ∧ Below w.heap.size w w' := by
  have hb0 : Below w.heap.size w (w.alloc (.cells #[.bool true, .int .i64 n] 44)) := (Below.refl _ _).alloc (Nat.le_refl _) _
  go_enter Tryz.func32, Tryz.ntmps32
  go_wp2
  exact bodyPost_ret (v := .agg #[.bool true, .int .i64 n]) (by simp [results, Tryz.results32, go_sem]) rfl ⟨rfl, hb0⟩


/-- Polls, round by round: the cells of the first n. -/
def rnd (P : Nat) : Nat → List Value
  | 0 => []
  | n + 1 => rnd P n ++ [.bool false, .int .i64 ((n % P : Nat) : Int)]
theorem rnd_len (P : Nat) : ∀ n, (rnd P n).length = n * 2
  | 0 => rfl
  | n + 1 => by simp only [rnd, List.length_append, rnd_len P n, List.length_cons, List.length_nil]; omega
theorem rnd_at (P : Nat) : ∀ n k, k < n → (rnd P n)[k * 2]? = some (.bool false) ∧ (rnd P n)[k * 2 + 1]? = some (.int .i64 ((k % P : Nat) : Int))
  | 0, k, h => by omega
  | n + 1, k, h => by
    have hl := rnd_len P n
    by_cases e : k = n
    · subst e
      simp only [rnd]
      rw [List.getElem?_append_right (by omega), List.getElem?_append_right (by omega), hl, show k * 2 - k * 2 = 0 by omega, show k * 2 + 1 - k * 2 = 1 by omega]
      exact ⟨rfl, rfl⟩
    · obtain ⟨h1, h2⟩ := rnd_at P n k (by omega)
      simp only [rnd]
      rw [List.getElem?_append_left (by omega), List.getElem?_append_left (by omega)]
      exact ⟨h1, h2⟩
/-- What Round answers: so many polls of the call's own. -/
def RoundPost (P n : Nat) (w : World) (e : Ending) (w' : World) : Prop := ∃ v, e = .returned v ∧ Sl w.heap.size w' 2 v n (rnd P n) ∧ Below w.heap.size w w'

theorem info_chP : (Tryz.prog.info? 44).map (fun i => (i.zero, i.size, i.bytes)) = some (some (.agg #[.bool false, .int .i64 0]), 2, 16) := by kernel_rfl
theorem src_ch {P : Program} {tx e' : TypeId} (hk : P.underlying tx = some (.slice e')) (w : World) (b : Bool) (n : Int) (e : TypeId) (N : Nat) (hN : w.heap.size = N) :
    Src P 2 tx (.slice (some ⟨N, 0, none⟩) 1 1) 1 [.bool b, .int .i64 n] (w.alloc (.cells #[.bool b, .int .i64 n] e)) := by
  subst hN
  refine Src.ofSlice _ hk ⟨w.heap.size, 0, none⟩ 1 1 [.bool b, .int .i64 n] rfl (fun j u hx => ?_) (fun u hx => ?_)
  · have ha := At.alloc w [.bool b, .int .i64 n] e
    obtain ⟨hj, rfl⟩ := List.getElem?_eq_some_iff.1 hx
    rw [Addr.add_lit, Nat.zero_add]
    exact (ha.2 j hj).1
  · simp at hx
    rcases hx with rfl | rfl <;> rfl
theorem make_ch (n : Nat) (hn : n ≤ 1000000) (w : World) : (Instr.makeSlice 26 (.int .i64 0) (.int .i64 n)).run Tryz.prog w = .ok (.slice (some ⟨w.heap.size, 0, none⟩) 0 n) (w.alloc (.cells (madeCells #[.bool false, .int .i64 0] (n * 2)) 44)) := by
  obtain ⟨i0, hi, hz0, hz1, hz2⟩ := info_parts info_chP
  have h := run_make (P := Tryz.prog) w 26 44 i0 (.agg #[.bool false, .int .i64 0]) Tryz.underlying26 hi hz0 .i64 .i64 0 n (by omega) (by omega) (by rw [hz2]; omega) (by omega)
  rw [hz1, show (Value.agg #[.bool false, .int .i64 0]).cells = #[.bool false, .int .i64 0] from rfl] at h
  simpa [madeCells] using h

set_option maxRecDepth 100000 in
set_option maxHeartbeats 2000000 in
theorem ch_round (P R : Nat) (hP : 1 ≤ P) (hP2 : P ≤ 100) (hR : 1 ≤ R) (hR2 : R ≤ 4000) (w : World) :
    Calls Tryz.prog 22 #[.int .i64 P, .int .i64 R] w (RoundPost P (R * P) w) := by
  have hdv : (536870 : Int) ≤ 2147483647 / (R : Int) := by rw [Int.le_ediv_iff_mul_le (by omega)]; omega
  have hdu : 2147483647 / (R : Int) ≤ 2147483647 := Int.ediv_le_self _ (by omega)
  have hdt : (2147483647 : Int).tdiv (R : Int) = 2147483647 / (R : Int) := Int.tdiv_eq_ediv_of_nonneg (by omega)
  obtain ⟨q, hq⟩ : ∃ q : Int, 2147483647 / (R : Int) = q := ⟨_, rfl⟩
  rw [hq] at hdv hdu hdt
  have hqP : ¬ q < (P : Int) := by omega
  have hM2 : R * P ≤ 400000 := Nat.le_trans (Nat.mul_le_mul_right P hR2) (by omega)
  obtain ⟨M, hM⟩ : ∃ M, R * P = M := ⟨_, rfl⟩
  have hMI : (P : Int) * (R : Int) = (M : Int) := by rw [← hM, Int.natCast_mul, Int.mul_comm]
  rw [hM] at hM2 ⊢
  have hmk := make_ch M (by omega) w
  have hs0 := Sl.made (B := w.heap.size) w (madeCells #[.bool false, .int .i64 0] (M * 2)) 44 2 0 M (Nat.le_refl _) (Nat.zero_le _) (by unfold maxLen; omega) (by simp [madeCells])
  have hb0 : Below w.heap.size w (w.alloc (.cells (madeCells #[.bool false, .int .i64 0] (M * 2)) 44)) := (Below.refl _ _).alloc (Nat.le_refl _) _
  have h1P : ¬ (P : Int) < 1 := by omega
  have h1R : ¬ (R : Int) < 1 := by omega
  have hR0 : ¬ (R : Int) = 0 := by omega
  have HM := Lib.hid hM
  have HP := Lib.hid (fun n w => ch_poll n w)
  obtain ⟨i0, hi, hz0, hz1, hz2⟩ := info_parts info_chP
  clear hM
  go_enter Tryz.func22, Tryz.ntmps22
  go_wp2
  go_loopw [5, 24] (fun v j wr => ∃ J : Nat, J ≤ R ∧ j = .int .i64 J ∧ Sl w.heap.size wr 2 v (J * P) (rnd P (J * P)) ∧ Below w.heap.size w wr) (fun _ j _ => R - (intOf j).toNat)
  case atStart => exact ⟨0, Nat.zero_le _, rfl, by rw [Nat.zero_mul]; exact hs0, hb0⟩
  case round =>
    clear hs0 hb0
    obtain ⟨J, hJ, rfl, hs, hb⟩ := hrel
    by_cases hlt : J < R
    · have hJP : J * P + P ≤ 400000 := by
        have h1 : (J + 1) * P ≤ R * P := Nat.mul_le_mul_right P (by omega)
        rw [Nat.succ_mul, HM.out] at h1
        omega
      have hJ1 : (J + 1) * P = J * P + P := Nat.succ_mul _ _
      have HJ1 := Lib.hid hJ1
      clear hJ1
      have hmod : ∀ I, I < P → (J * P + I) % P = I := fun I hI => by rw [Nat.add_comm, Nat.mul_comm, Nat.add_mul_mod_self_left, Nat.mod_eq_of_lt hI]
      have HMOD := Lib.hid hmod
      clear hmod hmk hMI
      generalize J * P = K at *
      go_wp2
      go_loopw [5, 27] (fun v i wx => ∃ I : Nat, I ≤ P ∧ i = .int .i64 I ∧ Sl w.heap.size wx 2 v (K + I) (rnd P (K + I)) ∧ Below w.heap.size w wx) (fun _ i _ => P - (intOf i).toNat)
      case atStart => exact ⟨0, Nat.zero_le _, rfl, hs, hb⟩
      case round =>
        clear hs hb
        obtain ⟨I, hI, rfl, hs, hb⟩ := hrel
        by_cases hlt2 : I < P
        · have hm1 : K + I + 1 ≤ maxLen := by unfold maxLen; omega
          have hmo := HMOD.out I hlt2
          have HMO := Lib.hid hmo
          clear hmo
          go_wp2_with (first | (go_at_call 33; (with_reducible refine (HP.out _ _).mono ?_); rintro e w3 ⟨rfl, hb3⟩; have hs3 := (hs.onW hb3).alloc (.cells #[.bool false, .int .i64 I] 44); have hw3 : w.heap.size ≤ w3.heap.size := Nat.le_trans hb.size hb3.size) | (at_builtin; refine wpList_append_sl _ rfl (.tmp 30) (.tmp 33) 26 26 rfl 44 i0 _ 16 Tryz.underlying26 hi hz0 hz1 hz2 rfl rfl hs3 _ 1 _ rfl (src_ch Tryz.underlying26 _ false I _ _ (by simp)) hm1 (by omega) (by simp; omega) ?_; intro v1 w4 k1 k2 k3))
          go_roundw
          case rel => exact ⟨I + 1, by omega, by go_num, (by show Sl _ _ 2 _ (K + I + 1) (rnd P (K + I) ++ [.bool false, .int .i64 (((K + I) % P : Nat) : Int)]); rw [HMO.out]; exact k1), ((on_below hb hb3).alloc (by omega) _).upd k2 (by simp; omega) (fun i _ hi => by have := (hs.lt i hi).1; omega)⟩
          case measure => simp [intOf]; omega
        · have hIP : I = P := by omega
          subst hIP
          go_wp2
          go_roundw
          case rel => exact ⟨J + 1, by omega, by go_num, (by rw [HJ1.out]; exact hs), hb⟩
          case measure => simp [intOf]; omega
    · obtain rfl : J = R := by omega
      go_wp2
      go_ret
      exact ⟨_, rfl, (by rw [← HM.out]; exact hs), hb⟩

set_option maxRecDepth 100000 in
set_option maxHeartbeats 1000000 in
theorem ch_round_none (p r : Int) (w : World) (hp : p ≤ 100) (hr : r ≤ 100) (h : p < 1 ∨ r < 1) :
    Calls Tryz.prog 22 #[.int .i64 p, .int .i64 r] w fun e w' => e = .returned (.slice none 0 0) ∧ Below w.heap.size w w' := by
  by_cases h1 : p < 1
  · go_enter Tryz.func22, Tryz.ntmps22
    go_wp2
    go_ret
    exact ⟨rfl, Below.refl _ _⟩
  · have h2 : r < 1 := by omega
    go_enter Tryz.func22, Tryz.ntmps22
    go_wp2
    go_ret
    exact ⟨rfl, Below.refl _ _⟩
end Go.Proofs.YtmimfkhkilijcaaGreat

/- What layer 25's statements say first. -/
namespace Go.Proofs.YtmimfkhkilijcaaGreat
set_option maxRecDepth 4000
open Go.ChangeShapes Go.WideShapes Go.ChangeAt Go.RowKit
open PHist PRing PSat PClamp PBound PFrame PVar PCrc PSign PTree PEv
set_option linter.unusedVariables false
set_option linter.unusedSimpArgs false

theorem nerr25 : nerr [r00, r00] 3 1000 2 = 0 := by decide
abbrev rul25 : List Value := [.int .i64 0, .int .i64 0, .int .i64 0, .int .i64 0, .int .i64 0, .int .i64 0, .int .i64 0, .int .i64 0, .int .i64 0, .int .i64 0]
abbrev chs25 : List Value := [.bool true, .int .i64 2, .bool false, .int .i64 1, .bool true, .int .i64 1, .bool false, .int .i64 0]
theorem rowu25 {w : World} {g : Nat} (h : At w g rul25) : RowU w (some ⟨g, 0, none⟩) [r00, r00] :=
  ⟨fun i hi => ⟨g, 0, rfl, h.1, fun j hj => by
    match i, hi with
    | 0, _ =>
      have := (h.2 j (by simp; omega)).1
      rw [show 0 + 0 * 5 + j = j by omega, this]
      match j, hj with
      | 0, _ => rfl
      | 1, _ => rfl
      | 2, _ => rfl
      | 3, _ => rfl
      | 4, _ => rfl
    | 1, _ =>
      have := (h.2 (5 + j) (by simp; omega)).1
      rw [show 0 + 1 * 5 + j = 5 + j by omega, this]
      match j, hj with
      | 0, _ => rfl
      | 1, _ => rfl
      | 2, _ => rfl
      | 3, _ => rfl
      | 4, _ => rfl⟩⟩
theorem rows25 {w : World} {g : Nat} {a b : ByteArray} (h : At w g [.string a, .string b]) : RowS w (some ⟨g, 0, none⟩) [a, b] :=
  ⟨fun i hi => ⟨g, 0, rfl, h.1, by
    match i, hi with
    | 0, _ => exact (h.2 0 (by simp)).1
    | 1, _ => exact (h.2 1 (by simp)).1⟩⟩
theorem rowc25 {w : World} {g : Nat} (h : At w g chs25) : RowG w 2 chc (some ⟨g, 0, none⟩) cs25 :=
  ⟨fun i hi => ⟨g, 0, rfl, h.1, fun j hj => by
    match i, hi, j, hj with
    | 0, _, 0, _ => exact (h.2 0 (by simp)).1
    | 0, _, 1, _ => exact (h.2 1 (by simp)).1
    | 1, _, 0, _ => exact (h.2 2 (by simp)).1
    | 1, _, 1, _ => exact (h.2 3 (by simp)).1
    | 2, _, 0, _ => exact (h.2 4 (by simp)).1
    | 2, _, 1, _ => exact (h.2 5 (by simp)).1
    | 3, _, 0, _ => exact (h.2 6 (by simp)).1
    | 3, _, 1, _ => exact (h.2 7 (by simp)).1⟩⟩
theorem fits25 : ∀ r ∈ [r00, r00], r.Fits := fun r hr => by
  have : r = r00 := by simpa using hr
  rw [this]
  exact ⟨by show in64 0; unfold in64; omega, by show in64 0; unfold in64; omega, by show in64 0; unfold in64; omega, by show in64 0; unfold in64; omega, by show in64 0; unfold in64; omega⟩
theorem small25 : ∀ s ∈ [bstr b5, bstr (b90 ++ b90)], s.size ≤ 400 := fun s hs => by
  rcases List.mem_cons.1 hs with rfl | hs
  · rw [size_bstr, len5]; omega
  · rw [List.mem_singleton.1 hs, size_bstr, List.length_append, len90]; omega
theorem ins25 : ∀ x ∈ cs25, in64 x.2 := fun x hx => by
  simp only [cs25, List.mem_cons, List.not_mem_nil, or_false] at hx
  rcases hx with rfl | rfl | rfl | rfl <;> (unfold in64; simp only; omega)
theorem play25 (w : World) (g a c : Nat) (h1 : At w g rul25) (h2 : At w a [.string (bstr b5), .string (bstr (b90 ++ b90))]) (h3 : At w c chs25) :
    Calls Tryz.prog 10 #[.agg #[.slice (some ⟨g, 0, none⟩) 2 2, .int .i64 3, .int .i64 1000], .slice (some ⟨a, 0, none⟩) 2 2, .slice (some ⟨c, 0, none⟩) 4 4] w (PlayPost evs25 w) := by
  have h := so_play [r00, r00] 3 1000 [bstr b5, bstr (b90 ++ b90)] cs25 (some ⟨g, 0, none⟩) 2 2 (some ⟨a, 0, none⟩) 2 2 (some ⟨c, 0, none⟩) 4 4 w (rowu25 h1) (rows25 h2) (rowc25 h3) rfl rfl rfl nerr25 (by omega) fits25 (by unfold in64; omega) (by unfold in64; omega) small25 ins25 (by omega)
  have e : St.newE 3 [r00, r00] ([bstr b5, bstr (b90 ++ b90)].map fun s => s.data.toList) ++ (St.new 3 1000 [r00, r00] ([bstr b5, bstr (b90 ++ b90)].map fun s => s.data.toList)).runE cs25 = evs25 := new25
  rw [e] at h
  exact h
theorem orderly25 (w : World) (g a : Nat) (h1 : At w g rul25) (h2 : At w a [.string (bstr b5), .string (bstr (b90 ++ b90))]) :
    Calls Tryz.prog 15 #[.agg #[.slice (some ⟨g, 0, none⟩) 2 2, .int .i64 3, .int .i64 1000], .slice (some ⟨a, 0, none⟩) 2 2] w fun e w' => e = .returned (.bool true) ∧ Below w.heap.size w w' :=
  ju_orderly [r00, r00] 3 1000 (some ⟨g, 0, none⟩) 2 2 [bstr b5, bstr (b90 ++ b90)] (some ⟨a, 0, none⟩) 2 2 w (rowu25 h1) rfl (by omega) fits25 (rows25 h2) rfl (by omega) (fun s hs => Nat.le_trans (small25 s hs) (by omega)) true ord25
theorem encode5 (w : World) : Calls Tryz.prog 31 #[.agg #[.int .i64 1, .int .i64 5, .string ⟨#[]⟩]] w fun e w' => e = .returned (.tuple #[.string (bstr b5), .int .i64 0]) ∧ Below w.heap.size w w' := by
  have h := fr_encode 1 5 ⟨#[]⟩ w (by omega) (by decide)
  have e : encS 1 5 [] = b5 := by unfold encS; rw [if_pos err5]; rfl
  have e2 : err 1 5 (⟨#[]⟩ : ByteArray).data.toList = 0 := err5
  rw [show (⟨#[]⟩ : ByteArray).data.toList = [] from rfl, e, err5] at h
  exact h
theorem encode90 (w : World) : Calls Tryz.prog 31 #[.agg #[.int .i64 1, .int .i64 90, .string ⟨#[]⟩]] w fun e w' => e = .returned (.tuple #[.string (bstr b90), .int .i64 0]) ∧ Below w.heap.size w w' := by
  have h := fr_encode 1 90 ⟨#[]⟩ w (by omega) (by decide)
  have e : encS 1 90 [] = b90 := by unfold encS; rw [if_pos err90]; rfl
  rw [show (⟨#[]⟩ : ByteArray).data.toList = [] from rfl, e, err90] at h
  exact h
end Go.Proofs.YtmimfkhkilijcaaGreat

/- What layer 25's statements say first: the walk. -/
namespace Go.Proofs.YtmimfkhkilijcaaGreat
set_option maxRecDepth 4000
open Go.ChangeShapes Go.WideShapes Go.ChangeAt Go.RowKit
open PHist PRing PSat PClamp PBound PFrame PVar PCrc PSign PTree PEv
set_option linter.unusedVariables false
set_option linter.unusedSimpArgs false

theorem bA {w w' : World} (h : Below w.heap.size w w') (o : Obj) : Below w.heap.size w (w'.alloc o) := h.alloc h.size o
theorem bD {w w' : World} (h : Below w.heap.size w w') : Below w.heap.size w w'.drew := h.drew
theorem At.mk25 (w : World) (l : List Value) (e : TypeId) (N : Nat) (hN : w.heap.size = N) : At (w.alloc (.cells l.toArray e)) N l := by
  subst hN
  exact At.alloc w l e
theorem rowe25 {w : World} {g : Nat} {a b : Ev} (h : At w g [evv a, evv b]) : RowE w (some ⟨g, 0, none⟩) [a, b] :=
  ⟨fun i hi => ⟨g, 0, rfl, h.1, by
    match i, hi with
    | 0, _ => exact (h.2 0 (by simp)).1
    | 1, _ => exact (h.2 1 (by simp)).1⟩⟩
theorem tagged25 (wx : World) : Calls Tryz.prog 12 #[.slice (some ⟨wx.heap.size, 0, none⟩) 2 2] (wx.alloc (.cells #[.iface 79 (.agg #[.int .i64 5]), .iface 81 (.agg #[.int .i64 0, .int .i64 0, .int .i64 5, .string ⟨#[]⟩, .bool false])] 61)) fun e w' => e = .returned (.bool false) ∧ Below (wx.alloc (.cells #[.iface 79 (.agg #[.int .i64 5]), .iface 81 (.agg #[.int .i64 0, .int .i64 0, .int .i64 5, .string ⟨#[]⟩, .bool false])] 61)).heap.size (wx.alloc (.cells #[.iface 79 (.agg #[.int .i64 5]), .iface 81 (.agg #[.int .i64 0, .int .i64 0, .int .i64 5, .string ⟨#[]⟩, .bool false])] 61)) w' :=
  ju_tagged (some ⟨wx.heap.size, 0, none⟩) 2 2 [.mark 5, .el false 0 0 5 []] _ (rowe25 (a := .mark 5) (b := .el false 0 0 5 []) (At.alloc wx _ _)) rfl (by omega) false untag25
theorem At.alA {w : World} {g : Nat} {l : List Value} (h : At w g l) (o : Obj) : At (w.alloc o) g l := h.on ((Below.refl _ _).alloc (Nat.le_refl _) o)
set_option maxRecDepth 100000 in
set_option maxHeartbeats 8000000 in
theorem speaks25 (w : World) : Calls Tryz.prog 8 #[] w fun e w' => e = .returned (.bool true) ∧ Below w.heap.size w w' := by
  have H5 := fun wx => Lib.hid (encode5 wx)
  have H90 := fun wx => Lib.hid (encode90 wx)
  have hs90 : (bstr b90).size = 8 := by rw [size_bstr, len90]
  have hca := fun w => cat_run (P := Tryz.prog) w (bstr b90) (bstr b90) (bstr (b90 ++ b90)) (by rw [hs90]; decide) (bstr_cat _ _)
  have HPL := fun wx g a c h1 h2 h3 => Lib.hid (play25 wx g a c h1 h2 h3)
  have HOD := fun wx g a h1 h2 => Lib.hid (orderly25 wx g a h1 h2)
  clear hs90
  generalize bstr (b90 ++ b90) = tt at *
  generalize bstr b90 = t90 at *
  generalize bstr b5 = t5 at *
  have HT := fun n wx => Lib.hid (ch_tick n wx)
  have HQ := fun n wx => Lib.hid (ch_poll n wx)
  go_enter Tryz.func8, Tryz.ntmps8
  go_upto_region 6 with (first | (go_at_call 31; (with_reducible refine (H5 _).out.mono ?_); rintro e w1 ⟨rfl, hb1⟩) | (go_at_call 31; (with_reducible refine (H90 _).out.mono ?_); rintro e w2 ⟨rfl, hb2⟩) | fail)
  have hA1 := (At.alloc w2 rul25 76).on ((Below.refl _ _).alloc (Nat.le_refl _) (.cells #[.slice (some ⟨w2.heap.size, 0, none⟩) 2 2, .int .i64 3, .int .i64 1000] 24))
  have hA2 := At.alloc (w2.alloc (.cells rul25.toArray 76)) [.slice (some ⟨w2.heap.size, 0, none⟩) 2 2, .int .i64 3, .int .i64 1000] 24
  rw [World.size_alloc] at hA2
  have hbw : Below w.heap.size w ((w2.alloc (.cells rul25.toArray 76)).alloc (.cells #[.slice (some ⟨w2.heap.size, 0, none⟩) 2 2, .int .i64 3, .int .i64 1000] 24)) := on_below (on_below hb1 hb2) (((Below.refl _ _).alloc (Nat.le_refl _) _).alloc (by simp) _)
  obtain ⟨w3, hw3⟩ : ∃ w3, (w2.alloc (.cells rul25.toArray 76)).alloc (.cells #[.slice (some ⟨w2.heap.size, 0, none⟩) 2 2, .int .i64 3, .int .i64 1000] 24) = w3 := ⟨_, rfl⟩
  obtain ⟨g, hg⟩ : ∃ g, w2.heap.size = g := ⟨_, rfl⟩
  rw [hg] at hw3 hA1 hA2 hbw ⊢
  have hA2 : At w3 (g + 1) [.slice (some ⟨g, 0, none⟩) 2 2, .int .i64 3, .int .i64 1000] := hw3 ▸ hA2
  have hA1 : At w3 g rul25 := hw3 ▸ hA1
  have hbw : Below w.heap.size w w3 := hw3 ▸ hbw
  show Code.wp _ _ _ _ ((w2.alloc (.cells rul25.toArray 76)).alloc (.cells #[.slice (some ⟨g, 0, none⟩) 2 2, .int .i64 3, .int .i64 1000] 24))
  rw [hw3]
  clear hw3 hg hb1 hb2 H5 H90
  go_cut [6, 7] (fun v z wx => z = .int .i64 0 ∧ Sl w3.heap.size wx 1 v 3 (evs25.map evv) ∧ Below w3.heap.size w3 wx)
  case first =>
    clear HOD hbw
    obtain ⟨-, c0, -, c1, -, c2, -⟩ := hA2.drew.three
    have HAF : Hid (∀ wx, Below w3.heap.size w3 wx → wx.cell? ⟨g + 1, 0, none⟩ = some (.slice (some ⟨g, 0, none⟩) 2 2) ∧ wx.cell? ⟨g + 1, 1, none⟩ = some (.int .i64 3) ∧ wx.cell? ⟨g + 1, 2, none⟩ = some (.int .i64 1000)) := fun wx hx => ⟨cell_kept hx c0, cell_kept hx c1, cell_kept hx c2⟩
    clear hA2
    go_region_held3 (fun wx => wx.cell? ⟨g + 1, 0, none⟩ = some (.slice (some ⟨g, 0, none⟩) 2 2) ∧ wx.cell? ⟨g + 1, 1, none⟩ = some (.int .i64 3) ∧ wx.cell? ⟨g + 1, 2, none⟩ = some (.int .i64 1000)) (((with_reducible refine HAF.out _ ?_); (repeat (first | (with_reducible exact Below.refl _ _) | (with_reducible refine on_below ?_ hba) | (with_reducible refine on_below ?_ hbb) | (with_reducible refine on_below ?_ hbc) | (with_reducible refine on_below ?_ hbd) | (with_reducible refine on_below ?_ hbe) | (with_reducible refine bA ?_ _) | (with_reducible refine bD ?_))))) (first | (go_at_call 32; (with_reducible refine (HT 2 _).out.mono ?_); rintro e wta ⟨rfl, hba⟩) | (go_at_call 33; (with_reducible refine (HQ 1 _).out.mono ?_); rintro e wtb ⟨rfl, hbb⟩) | (go_at_call 32; (with_reducible refine (HT 1 _).out.mono ?_); rintro e wtc ⟨rfl, hbc⟩) | (go_at_call 33; (with_reducible refine (HQ 0 _).out.mono ?_); rintro e wtd ⟨rfl, hbd⟩) | (go_at_call 10; (with_reducible refine (HPL _ _ _ _ (by (repeat (first | (with_reducible exact hA1) | (with_reducible exact At.mk25 _ _ _ _ (by first | rfl | exact World.size_alloc _ _)) | (with_reducible refine At.on ?_ hba) | (with_reducible refine At.on ?_ hbb) | (with_reducible refine At.on ?_ hbc) | (with_reducible refine At.on ?_ hbd) | (with_reducible refine At.alA ?_ _) | (with_reducible refine At.drew ?_)))) (by (repeat (first | (with_reducible exact hA1) | (with_reducible exact At.mk25 _ _ _ _ (by first | rfl | exact World.size_alloc _ _)) | (with_reducible refine At.on ?_ hba) | (with_reducible refine At.on ?_ hbb) | (with_reducible refine At.on ?_ hbc) | (with_reducible refine At.on ?_ hbd) | (with_reducible refine At.alA ?_ _) | (with_reducible refine At.drew ?_)))) (by (repeat (first | (with_reducible exact hA1) | (with_reducible exact At.mk25 _ _ _ _ (by first | rfl | exact World.size_alloc _ _)) | (with_reducible refine At.on ?_ hba) | (with_reducible refine At.on ?_ hbb) | (with_reducible refine At.on ?_ hbc) | (with_reducible refine At.on ?_ hbd) | (with_reducible refine At.alA ?_ _) | (with_reducible refine At.drew ?_))))).out.mono ?_); intro e w5 h5; obtain ⟨v, rfl, q1, hbe⟩ := h5) | fail)
    all_goals (go_wp2_with fail; go_meet)
    all_goals (have hbz : Below w3.heap.size w3 w5 := by (repeat (first | (with_reducible exact Below.refl _ _) | (with_reducible refine on_below ?_ hba) | (with_reducible refine on_below ?_ hbb) | (with_reducible refine on_below ?_ hbc) | (with_reducible refine on_below ?_ hbd) | (with_reducible refine on_below ?_ hbe) | (with_reducible refine bA ?_ _) | (with_reducible refine bD ?_))))
    all_goals (refine ⟨rfl, q1.base ?_, hbz⟩)
    all_goals (refine (show Below w3.heap.size w3 _ from ?_).size)
    all_goals (repeat (first | (with_reducible exact Below.refl _ _) | (with_reducible refine on_below ?_ hba) | (with_reducible refine on_below ?_ hbb) | (with_reducible refine on_below ?_ hbc) | (with_reducible refine on_below ?_ hbd) | (with_reducible refine on_below ?_ hbe) | (with_reducible refine bA ?_ _) | (with_reducible refine bD ?_)))
  case rest =>
    obtain ⟨rfl, hv, hbc⟩ := hcut
    obtain ⟨-, ae, ce, rfl, hE⟩ := rowe_of_sl hv
    rename World => wc
    obtain ⟨-, c0, -, c1, -, c2, -⟩ := (hA2.on hbc).three
    have hR := hA1.on hbc
    have hbc2 := on_below hbw hbc
    have hbx : Below wc.heap.size wc (wc.alloc (.cells #[.string t5, .string tt] 9)) := (Below.refl _ _).alloc (Nat.le_refl _) _
    have HO := HOD _ g wc.heap.size (hR.on hbx) (At.alloc wc [.string t5, .string tt] 9)
    have HL := fun wx (hx : Below wc.heap.size wc wx) => Lib.hid (ju_lates ae evs25.length ce evs25 wx (hE.on hx) rfl (by decide) 1 late25)
    have HRI := fun wx (hx : Below wc.heap.size wc wx) => Lib.hid (ju_rises ae evs25.length ce evs25 wx (hE.on hx) rfl (by decide) true rise25)
    have HTG := fun wx (hx : Below wc.heap.size wc wx) => Lib.hid (ju_tagged ae evs25.length ce evs25 wx (hE.on hx) rfl (by decide) true tag25)
    have HT2 := fun wx => Lib.hid (tagged25 wx)
    clear HPL HT HQ hA1 hA2 hbw hv
    generalize evs25.length = N at *
    go_wp2_with (first | (go_at_call 15; (with_reducible refine HO.out.mono ?_); rintro e w4 ⟨rfl, hb4⟩; have hbn := on_below hbx hb4) | (go_at_call 19; (with_reducible refine (HL _ hbn).out.mono ?_); rintro e w5 ⟨rfl, hb5⟩; have hbn5 := on_below hbn hb5) | (go_at_call 11; (with_reducible refine (HRI _ hbn5).out.mono ?_); rintro e w6 ⟨rfl, hb6⟩; have hbn6 := on_below hbn5 hb6) | (go_at_call 12; (with_reducible refine (HTG _ hbn6).out.mono ?_); rintro e w7 ⟨rfl, hb7⟩; have hbn7 := on_below hbn6 hb7) | (go_at_call 12; (with_reducible refine (HT2 _).out.mono ?_); rintro e w8 ⟨rfl, hb8⟩))
    go_ret
    exact ⟨rfl, on_below hbc2 (on_below (hbn7.alloc hbn7.size _) hb8)⟩
end Go.Proofs.YtmimfkhkilijcaaGreat
