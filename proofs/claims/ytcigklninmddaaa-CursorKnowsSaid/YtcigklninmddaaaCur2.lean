/- Contracts of cursor's calls: the next record. -/
import Derived.Test.YtcigklninmddaaaCur
namespace Go.Proofs.Ytcigklninmddaaa
set_option maxRecDepth 4000
open Go.ChangeShapes Go.WideShapes Go.ChangeAt Go.RowKit
open PVar PCrc PFrame
set_option linter.unusedVariables false
set_option linter.unusedSimpArgs false

/-- The next record, behind which one is then. -/
def CuPost (g : Nat) (s : ByteArray) (k c : Nat) (r : R) (w : World) (e : Ending) (w' : World) : Prop :=
  e = .returned (.tuple #[frec r, .bool true]) ∧ CurC w' g s k c ∧ Upd (fun i => i = g) w w'
set_option maxHeartbeats 1000000 in
theorem cu_next (g : Nat) (s : ByteArray) (k c : Nat) (r : R) (n : Nat) (w : World) (h : CurC w g s k c) (hk : k ≤ s.size) (hs : s.size ≤ 100000) (hc : c ≤ 100000) (hf : fget (s.data.toList.drop k) = (r, n, 0)) :
    Calls Try.prog 12 #[.pointer (some ⟨g, 0, none⟩)] w (CuPost g s (k + n) (c + 1) r w) := by
  have hn : n ≤ s.size := by
    have := (fget_ok hf).2.2.2
    rw [List.length_drop, Array.length_toList] at this
    have e : s.data.size = s.size := rfl
    omega
  have hA := h.on (show Below w.heap.size w (w.alloc (.cells #[.int .i64 0, .int .i64 0, .string ⟨#[]⟩] 33)) from (Below.refl _ _).alloc (Nat.le_refl _) _)
  have hR := At.alloc w [.int .i64 0, .int .i64 0, .string ⟨#[]⟩] 33
  have hgl := h.lt
  have hu0 : Upd (fun i => i = g) w (w.alloc (.cells #[.int .i64 0, .int .i64 0, .string ⟨#[]⟩] 33)) := (Upd.refl _ w).alloc _
  have HG := fun w => Lib.hid (fr_get (bstr (s.data.toList.drop k)) w (drop_small s k hs))
  rw [show (bstr (s.data.toList.drop k)).data.toList = s.data.toList.drop k from rfl, hf] at HG
  have HL := fun w h => Lib.hid (cu_left g s k c w h hk)
  clear hf h
  generalize s.data.toList.drop k = l at *
  obtain ⟨rk, rt, rx⟩ := r
  have HA := Lib.hid hA
  have HR := Lib.hid hR
  obtain ⟨hg, c0, z0, c1, z1, c2, z2, c3, z3⟩ := At.four hA
  clear hA hR
  go_enter Try.func12, Try.ntmps12
  go_wp2
  generalize hw1 : w.alloc (.cells #[.int .i64 0, .int .i64 0, .string ⟨#[]⟩] 33) = w1 at *
  have hN : w.heap.size < w1.heap.size := by rw [← hw1]; simp
  clear hw1
  generalize hNN : w.heap.size = N at *
  have HNN := Lib.hid hNN
  clear hNN
  go_cut [4, 5, 6] (fun v n' e' wx => ∃ G : Nat, v = .pointer (some ⟨G, 0, none⟩) ∧ n' = .int .i64 n ∧ e' = .int .i64 0 ∧ w1.heap.size ≤ G ∧ At wx G [.int .i64 rk, .int .i64 rt, .string (bstr rx)] ∧ Below w1.heap.size w1 wx)
  case first =>
    go_region_held3 (fun wx => wx.cell? ⟨g, 1, none⟩ = some (.func (.func 16) #[] #[])) (first | (with_reducible exact HA.out.drew.get) | (with_reducible exact (HA.out.made _).drew.get) | (with_reducible exact ca) | (with_reducible exact (hAa.made _).get) | (with_reducible exact cb) | (with_reducible exact (hA2.made _).get) | (with_reducible exact ((((hA2.made _).other (Nat.ne_of_gt hA2.lt) _).other (Nat.ne_of_gt hA2.lt) _).other (Nat.ne_of_gt hA2.lt) _).get) | (with_reducible exact (((hA2.other (Nat.ne_of_gt hAa.lt) _).other (Nat.ne_of_gt hAa.lt) _).other (Nat.ne_of_gt hAa.lt) _).get) | (with_reducible exact (((hA2.other (Nat.ne_of_gt HA.out.lt) _).other (Nat.ne_of_gt HA.out.lt) _).other (Nat.ne_of_gt HA.out.lt) _).get) | exact c1 | fail) (first | (go_at_call 18; (first | (with_reducible refine (HL _ HA.out.drew).out.mono ?_) | (with_reducible refine (HL _ (HA.out.made _).drew).out.mono ?_)); rintro e wa ⟨rfl, hba⟩; (first | (with_reducible have hAa := HA.out.drew.on hba) | (with_reducible have hAa := (HA.out.made _).drew.on hba)); (first | (with_reducible have hBa := on_below (Below.refl w1.heap.size w1).drew hba) | (with_reducible have hBa := on_below ((Below.refl w1.heap.size w1).alloc (Nat.le_refl _) _).drew hba)); have ca := hAa.get) | (go_at_call 16; refine (HG _).out.mono ?_; rintro e w2 ⟨rfl, hb2⟩; (first | (with_reducible have hA2 := hAa.on hb2) | (with_reducible have hA2 := (hAa.made _).on hb2)); (first | (with_reducible have hB2 := on_below hBa hb2) | (with_reducible have hB2 := on_below (hBa.alloc hBa.size _) hb2)); have cb := hA2.get; (first | (with_reducible have hG2 := (At.alloc wa [.int .i64 0, .int .i64 0, .string ⟨#[]⟩] 33).on hb2); obtain ⟨q0, q1, q2, q3, q4, q5, q6⟩ := hG2.three | (with_reducible have hG2 := ((At.alloc w1 [.int .i64 0, .int .i64 0, .string ⟨#[]⟩] 33).drew.on hba).on hb2); obtain ⟨q0, q1, q2, q3, q4, q5, q6⟩ := hG2.three | skip)))
    all_goals (go_wp2_with fail; go_meet; first | exact ⟨_, rfl, rfl, rfl, hB2.size, At.alloc w2 [.int .i64 rk, .int .i64 rt, .string (bstr rx)] 33, hB2.alloc hB2.size _⟩ | exact ⟨_, rfl, rfl, rfl, hBa.size, rec_put hG2 hB2 hBa.size⟩ | exact ⟨_, rfl, rfl, rfl, Nat.le_refl _, rec_put hG2 hB2 (Nat.le_refl _)⟩)
  case rest =>
    obtain ⟨G, rfl, rfl, rfl, hGl, hG, hb⟩ := hcut
    have hC := HA.out.on hb
    have hR := HR.out.on hb
    obtain ⟨hg, c0, z0, c1, z1, c2, z2, c3, z3⟩ := At.four hC
    obtain ⟨hG1, d0, y0, d1, y1, d2, y2⟩ := hG.three
    obtain ⟨hN1, f0, x0, f1, x1, f2, x2⟩ := hR.three
    have n1 : G ≠ g := by omega
    have n2 : g ≠ G := by omega
    have n3 : N ≠ g := by omega
    have n4 : N ≠ G := by omega
    obtain ⟨P0, P1, P2⟩ := ((hR.set_other (p := ⟨g, 2, none⟩) n3.symm (.int .i64 ((k : Int) + n))).set_other (p := ⟨g, 3, none⟩) n3.symm (.int .i64 ((c : Int) + 1))).put3
    have hu : Upd (fun i => i = g) w wc := hu0.trans (Upd.of_below (S := fun _ => False) hb (fun i _ h => by omega)) (fun _ _ h => h.elim)
    have hC2 := ((((hC.set 2 (by simp) (.int .i64 ((k : Int) + n))).set 3 (by simp) (.int .i64 ((c : Int) + 1))).set_other (p := ⟨N, 0, none⟩) n3 (.int .i64 rk)).set_other (p := ⟨N, 1, none⟩) n3 (.int .i64 rt)).set_other (p := ⟨N, 2, none⟩) n3 (.string (bstr rx))
    have hw : ∀ i, i = N → i < w.heap.size → i = g := fun i e h => by have := HNN.out; omega
    have hu2 := ((((hu.setCell (p := ⟨g, 2, none⟩) (fun _ => rfl) (.int .i64 ((k : Int) + n))).setCell (p := ⟨g, 3, none⟩) (fun _ => rfl) (.int .i64 ((c : Int) + 1))).setCell (p := ⟨N, 0, none⟩) (hw N rfl) (.int .i64 rk)).setCell (p := ⟨N, 1, none⟩) (hw N rfl) (.int .i64 rt)).setCell (p := ⟨N, 2, none⟩) (hw N rfl) (.string (bstr rx))
    have HC2 := Lib.hid hC2
    have HU2 := Lib.hid hu2
    clear hC2 hu2 hw
    go_wp2
    exact bodyPost_ret (v := .tuple #[frec (rk, rt, rx), .bool true]) (by simp [results, Try.results12, go_sem, P0, P1, P2, hN1]) rfl ⟨rfl, HC2.out, HU2.out⟩

set_option maxHeartbeats 1000000 in
theorem cu_none (g : Nat) (s : ByteArray) (k c : Nat) (w : World) (h : CurC w g s k c) (hk : k ≤ s.size) (hs : s.size ≤ 100000) (hf : (fget (s.data.toList.drop k)).2.2 ≠ 0) :
    Calls Try.prog 12 #[.pointer (some ⟨g, 0, none⟩)] w fun e w' => e = .returned (.tuple #[frec zr, .bool false]) ∧ Below w.heap.size w w' := by
  have hb0 : Below w.heap.size w (w.alloc (.cells #[.int .i64 0, .int .i64 0, .string ⟨#[]⟩] 33)) := (Below.refl _ _).alloc (Nat.le_refl _) _
  have HA := Lib.hid (h.on hb0)
  have HR := Lib.hid (At.alloc w [.int .i64 0, .int .i64 0, .string ⟨#[]⟩] 33)
  have HG := fun w => Lib.hid (fr_get (bstr (s.data.toList.drop k)) w (drop_small s k hs))
  rw [show (bstr (s.data.toList.drop k)).data.toList = s.data.toList.drop k from rfl] at HG
  have HL := fun w h => Lib.hid (cu_left g s k c w h hk)
  clear h
  generalize s.data.toList.drop k = l at *
  generalize fget l = p at *
  obtain ⟨r, n, er⟩ := p
  have hz : ((er : Int) == 0) = false := by rw [beq_eq_false_iff_ne]; simp at hf; omega
  clear hf
  obtain ⟨hg, c0, z0, c1, z1, c2, z2, c3, z3⟩ := At.four HA.out
  go_enter Try.func12, Try.ntmps12
  go_wp2
  generalize w.alloc (.cells #[.int .i64 0, .int .i64 0, .string ⟨#[]⟩] 33) = w1 at *
  generalize hNN : w.heap.size = N at *
  have HNN := Lib.hid hNN
  clear hNN
  go_cut [6] (fun e' wx => e' = .int .i64 er ∧ Below w1.heap.size w1 wx)
  case first =>
    go_region_held3 (fun wx => wx.cell? ⟨g, 1, none⟩ = some (.func (.func 16) #[] #[])) (first | (with_reducible exact HA.out.drew.get) | (with_reducible exact (HA.out.made _).drew.get) | (with_reducible exact ca) | (with_reducible exact (hAa.made _).get) | (with_reducible exact cb) | (with_reducible exact (hA2.made _).get) | (with_reducible exact ((((hA2.made _).other (Nat.ne_of_gt hA2.lt) _).other (Nat.ne_of_gt hA2.lt) _).other (Nat.ne_of_gt hA2.lt) _).get) | (with_reducible exact (((hA2.other (Nat.ne_of_gt hAa.lt) _).other (Nat.ne_of_gt hAa.lt) _).other (Nat.ne_of_gt hAa.lt) _).get) | (with_reducible exact (((hA2.other (Nat.ne_of_gt HA.out.lt) _).other (Nat.ne_of_gt HA.out.lt) _).other (Nat.ne_of_gt HA.out.lt) _).get) | exact c1 | fail) (first | (go_at_call 18; (first | (with_reducible refine (HL _ HA.out.drew).out.mono ?_) | (with_reducible refine (HL _ (HA.out.made _).drew).out.mono ?_)); rintro e wa ⟨rfl, hba⟩; (first | (with_reducible have hAa := HA.out.drew.on hba) | (with_reducible have hAa := (HA.out.made _).drew.on hba)); (first | (with_reducible have hBa := on_below (Below.refl w1.heap.size w1).drew hba) | (with_reducible have hBa := on_below ((Below.refl w1.heap.size w1).alloc (Nat.le_refl _) _).drew hba)); have ca := hAa.get) | (go_at_call 16; refine (HG _).out.mono ?_; rintro e w2 ⟨rfl, hb2⟩; (first | (with_reducible have hA2 := hAa.on hb2) | (with_reducible have hA2 := (hAa.made _).on hb2)); (first | (with_reducible have hB2 := on_below hBa hb2) | (with_reducible have hB2 := on_below (hBa.alloc hBa.size _) hb2)); have cb := hA2.get; (first | (with_reducible have hG2 := (At.alloc wa [.int .i64 0, .int .i64 0, .string ⟨#[]⟩] 33).on hb2); obtain ⟨q0, q1, q2, q3, q4, q5, q6⟩ := hG2.three | (with_reducible have hG2 := ((At.alloc w1 [.int .i64 0, .int .i64 0, .string ⟨#[]⟩] 33).drew.on hba).on hb2); obtain ⟨q0, q1, q2, q3, q4, q5, q6⟩ := hG2.three | skip)))
    all_goals (go_wp2_with fail; go_meet; first | exact ⟨rfl, hB2.alloc hB2.size _⟩ | exact ⟨rfl, (rec_put hG2 hB2 hBa.size).2⟩ | exact ⟨rfl, (rec_put hG2 hB2 (Nat.le_refl _)).2⟩)
  case rest =>
    obtain ⟨rfl, hb⟩ := hcut
    have hR := HR.out.on hb
    obtain ⟨hgr, d0, y0, d1, y1, d2, y2⟩ := hR.three
    obtain ⟨P0, P1, P2⟩ := hR.put3
    have hB := ((((hb0.trans (hb.mono (by have := hb0.size; have := HNN.out; omega))).setCell (p := ⟨N, 0, none⟩) (Nat.le_refl _) (.int .i64 0)).setCell (p := ⟨N, 1, none⟩) (Nat.le_refl _) (.int .i64 0)).setCell (p := ⟨N, 2, none⟩) (Nat.le_refl _) (.string ⟨#[]⟩))
    have HB := Lib.hid hB
    clear hB
    go_wp2
    exact bodyPost_ret (v := .tuple #[frec zr, .bool false]) (by simp [results, Try.results12, go_sem, P0, P1, P2, hgr, zr]) rfl ⟨rfl, by rw [HNN.out]; exact HB.out⟩

theorem cu_ahead_is (g : Nat) (s : ByteArray) (k c : Nat) (w : World) (z : Int) (h : CurC w g s k c) (hk : k ≤ s.size) (hs : s.size ≤ 100000) (hz : ((cahead (s.data.toList.drop k) : Nat) : Int) = z) :
    Calls Try.prog 8 #[.pointer (some ⟨g, 0, none⟩)] w fun e w' => e = .returned (.int .i64 z) ∧ Below w.heap.size w w' := hz ▸ cu_ahead g s k c w h hk hs
theorem cu_err_is (g : Nat) (s : ByteArray) (k c : Nat) (w : World) (z : Int) (h : CurC w g s k c) (hk : k ≤ s.size) (hs : s.size ≤ 100000) (hz : ((cerr (s.data.toList.drop k) : Nat) : Int) = z) :
    Calls Try.prog 9 #[.pointer (some ⟨g, 0, none⟩)] w fun e w' => e = .returned (.int .i64 z) ∧ Below w.heap.size w w' := hz ▸ cu_err g s k c w h hk hs
end Go.Proofs.Ytcigklninmddaaa
