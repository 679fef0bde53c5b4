/- KClock: what is reached of them. -/
import Derived.Test.YtmimfkhkilijcaaGreatDoorWq20
import Derived.Test.YtmimfkhkilijcaaGreatDoorWq01
set_option linter.unusedVariables false
set_option linter.unusedSimpArgs false
set_option maxRecDepth 100000
set_option maxHeartbeats 8000000
namespace Go.Proofs.YtmimfkhkilijcaaGreatDoor
open Go.ChangeShapes Go.WideShapes Go.ChangeAt Go.RowKit
open PSat
theorem sat_add (a b : Int) (w : World) (ha : -9223372036854775808≤a∧a≤9223372036854775807) (hb : -9223372036854775808≤b∧b≤9223372036854775807) :
    Calls Tryz.prog 77 #[.int .i64 a,.int .i64 b] w fun e w'=>e = .returned (.int .i64 (add a b))∧w=w':=by
  obtain ⟨ha1,ha2⟩:=ha
  obtain ⟨hb1,hb2⟩:=hb
  go_enter Tryz.func77,Tryz.ntmps77
  go_wp2
  all_goals go_ret
  all_goals refine ⟨ret_int ?_,rfl⟩
  all_goals (unfold add clampI;(repeat' split) <;> omega)
def IdleC (w : World) (g : Nat) (s t d : Int) : Prop:=At w g [.int .i64 s,.int .i64 t,.int .i64 d]
theorem IdleC.upd {S : Nat→Prop} {w w' : World} {g : Nat} {s t d : Int} (h : IdleC w g s t d) (hu : Upd S w w') (hn : ¬ S g) : IdleC w' g s t d:=At.upd h hu hn
theorem IdleC.on {w w' : World} {g : Nat} {s t d : Int} (h : IdleC w g s t d) (hb : Below w.heap.size w w') : IdleC w' g s t d:=At.on h hb
theorem IdleC.lt {w : World} {g : Nat} {s t d : Int} (h : IdleC w g s t d) : g<w.heap.size:=h.1
def IdPost (g : Nat) (s t d : Int) (w w' : World) : Prop:=IdleC w' g s t d∧Upd (fun k=>k=g) w w'
def IdNew (w : World) (t d : Int) (e : Ending) (w' : World) : Prop:=e = .returned (.pointer (some ⟨w.heap.size,0,none⟩))∧IdleC w' w.heap.size 0 t d∧w'.heap.size=w.heap.size+1∧Below w.heap.size w w'
theorem id_is (g : Nat) (s t d : Int) (w : World) (h : IdleC w g s t d) :
    Calls Tryz.prog 117 #[.pointer (some ⟨g,0,none⟩)] w fun e w'=>e = .returned (.int .i64 s)∧w=w':=by
  obtain ⟨hg,c0,z0,c1,z1,c2,z2⟩:=At.three h
  go_enter Tryz.func117,Tryz.ntmps117
  go_wp2
  go_ret
  exact ⟨rfl,rfl⟩
theorem id_over (g : Nat) (s t d : Int) (w : World) (h : IdleC w g s t d) (h0 : 0≤s∧s≤3) :
    Calls Tryz.prog 218 #[.pointer (some ⟨g,0,none⟩)] w fun e w'=>e = .returned (.bool (decide (2≤s)))∧w=w':=by
  obtain ⟨hg,c0,z0,c1,z1,c2,z2⟩:=At.three h
  go_enter Tryz.func218,Tryz.ntmps218
  go_wp2
  all_goals go_ret
  all_goals refine ⟨ret_bool ?_,rfl⟩
  all_goals (rw [Bool.eq_iff_iff];simp <;> omega)
theorem id_stop (g : Nat) (s t d x : Int) (w : World) (h : IdleC w g s t d) (h0 : 0≤s) (h1 : s<2) :
    Calls Tryz.prog 212 #[.pointer (some ⟨g,0,none⟩),.int .i64 x] w fun e w'=>e = .returned (.bool true)∧IdPost g x t d w w':=by
  obtain ⟨hg,c0,z0,c1,z1,c2,z2⟩:=At.three h
  have HO:=Lib.hid (id_over g s t d w h ⟨h0,by omega⟩)
  have HH:=Lib.hid h
  have hs2 : decide (2≤s)=false:=by simp;omega
  clear h h0 h1
  rw [hs2] at HO
  go_enter Tryz.func212,Tryz.ntmps212
  go_wp2_with (go_at_call 218;refine HO.out.mono ?_;rintro e w' ⟨rfl,rfl⟩)
  go_ret
  exact ⟨rfl,by unfold IdleC;simpa using At.set HH.out 0 (by simp) (.int .i64 x),(Upd.refl (fun k=>k=g) w).setCell (p:=⟨g,0,none⟩) (fun _=>rfl) _⟩
theorem id_end (g : Nat) (s t d : Int) (w : World) (h : IdleC w g s t d) (h0 : 0≤s) (h1 : s<2) :
    Calls Tryz.prog 160 #[.pointer (some ⟨g,0,none⟩)] w fun e w'=>e = .returned (.bool true)∧IdPost g 2 t d w w':=by
  have HS:=Lib.hid (id_stop g s t d 2 w h h0 h1)
  clear h h0 h1
  go_enter Tryz.func160,Tryz.ntmps160
  go_wp2_with (go_at_call 212;refine HS.out.mono ?_;rintro e w' ⟨rfl,hp⟩)
  go_ret
  exact ⟨rfl,hp⟩
theorem id_fail (g : Nat) (s t d : Int) (w : World) (h : IdleC w g s t d) (h0 : 0≤s) (h1 : s<2) :
    Calls Tryz.prog 161 #[.pointer (some ⟨g,0,none⟩)] w fun e w'=>e = .returned (.bool true)∧IdPost g 3 t d w w':=by
  have HS:=Lib.hid (id_stop g s t d 3 w h h0 h1)
  clear h h0 h1
  go_enter Tryz.func161,Tryz.ntmps161
  go_wp2_with (go_at_call 212;refine HS.out.mono ?_;rintro e w' ⟨rfl,hp⟩)
  go_ret
  exact ⟨rfl,hp⟩
section
variable {w0 w w' : World} {gc gs : Nat} {n s t d : Int}
end
end Go.Proofs.YtmimfkhkilijcaaGreatDoor
