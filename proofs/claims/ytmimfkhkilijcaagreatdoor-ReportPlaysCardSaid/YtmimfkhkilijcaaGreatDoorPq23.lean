/- Clock1: what is reached of them. -/
import Derived.Test.YtmimfkhkilijcaaGreatDoorPq22
set_option linter.unusedVariables false
set_option linter.unusedSimpArgs false
set_option maxRecDepth 100000
set_option maxHeartbeats 8000000
namespace Go.Proofs.YtmimfkhkilijcaaGreatDoor
open Go.ChangeShapes Go.WideShapes Go.ChangeAt Go.RowKit
open PSat
def ClockD (w : World) (g : Nat) (n : Int) : Prop:=g<w.heap.size∧w.cell? ⟨g,1,none⟩=some (.int .i64 n)∧w.frozen? ⟨g,1,none⟩=false
theorem ClockD.of {w : World} {g : Nat} {a : Value} {n : Int} {l : List Value} (h : At w g (a :: .int .i64 n::l)) : ClockD w g n:=⟨h.1,(h.2 1 (by simp)).1,(h.2 1 (by simp)).2⟩
def CdPost (g : Nat) (n : Int) (w w' : World) : Prop:=w'=w.setCell ⟨g,1,none⟩ (.int .i64 n)
theorem cd_now (g : Nat) (n : Int) (w : World) (h : ClockD w g n) :
    Calls Tryz.prog 121 #[.pointer (some ⟨g,1,none⟩)] w fun e w'=>e = .returned (.int .i64 n)∧w=w':=by
  obtain ⟨hg,c0,z0⟩:=(show g<w.heap.size∧w.cell? ⟨g,1,none⟩=some (.int .i64 n)∧w.frozen? ⟨g,1,none⟩=false from h)
  go_enter Tryz.func121,Tryz.ntmps121
  go_wp2
  go_ret
  exact ⟨rfl,rfl⟩
theorem cd_past (g : Nat) (n a : Int) (w : World) (h : ClockD w g n) :
    Calls Tryz.prog 250 #[.pointer (some ⟨g,1,none⟩),.int .i64 a] w fun e w'=>e = .returned (.bool (decide (a≤n)))∧w=w':=by
  obtain ⟨hg,c0,z0⟩:=(show g<w.heap.size∧w.cell? ⟨g,1,none⟩=some (.int .i64 n)∧w.frozen? ⟨g,1,none⟩=false from h)
  go_enter Tryz.func250,Tryz.ntmps250
  go_wp2
  go_ret
  exact ⟨ret_bool (by simp),rfl⟩
theorem cd_until (g : Nat) (n b : Int) (w : World) (h : ClockD w g n) (hn : -9223372036854775808≤n∧n≤9223372036854775807) (hb : -9223372036854775808≤b∧b≤9223372036854775807) :
    Calls Tryz.prog 158 #[.pointer (some ⟨g,1,none⟩),.int .i64 b] w fun e w'=>e = .returned (.int .i64 (add n (max b 0)))∧w=w':=by
  obtain ⟨hg,c0,z0⟩:=(show g<w.heap.size∧w.cell? ⟨g,1,none⟩=some (.int .i64 n)∧w.frozen? ⟨g,1,none⟩=false from h)
  have HS:=fun m hm=>Lib.hid (sat_add n m w hn hm)
  by_cases h0 : 0≤b
  · have HM:=Lib.hid (show max b 0=b by omega)
    have HS:=HS b hb
    clear hb h
    rw [HM.out]
    generalize add n b=z at *
    go_enter Tryz.func158,Tryz.ntmps158
    go_wp2_with (go_at_call 77;refine HS.out.mono ?_;rintro e w' ⟨rfl,rfl⟩)
    go_ret
    exact ⟨rfl,rfl⟩
  have h1 : b<0:=by omega
  have HM:=Lib.hid (show max b 0=0 by omega)
  have HS:=HS 0 (by omega)
  clear hb h h0
  rw [HM.out]
  generalize add n 0=z at *
  go_enter Tryz.func158,Tryz.ntmps158
  go_wp2_with (go_at_call 77;refine HS.out.mono ?_;rintro e w' ⟨rfl,rfl⟩)
  go_ret
  exact ⟨rfl,rfl⟩
theorem cd_go (g : Nat) (n b : Int) (w : World) (h : ClockD w g n) (hn : -9223372036854775808≤n∧n≤9223372036854775807) (hb : -9223372036854775808≤b∧b≤9223372036854775807) (h0 : 0≤b) :
    Calls Tryz.prog 166 #[.pointer (some ⟨g,1,none⟩),.int .i64 b] w fun e w'=>e = .returned (.bool true)∧CdPost g (add n b) w w':=by
  obtain ⟨hg,c0,z0⟩:=(show g<w.heap.size∧w.cell? ⟨g,1,none⟩=some (.int .i64 n)∧w.frozen? ⟨g,1,none⟩=false from h)
  have HS:=Lib.hid (sat_add n b w hn hb)
  clear h hb hn
  generalize add n b=z at *
  go_enter Tryz.func166,Tryz.ntmps166
  go_wp2_with (go_at_call 77;refine HS.out.mono ?_;rintro e w' ⟨rfl,rfl⟩)
  go_ret
  exact ⟨rfl,rfl⟩
theorem cd_none (g : Nat) (n b : Int) (w : World) (h : ClockD w g n) (h0 : b<0) :
    Calls Tryz.prog 166 #[.pointer (some ⟨g,1,none⟩),.int .i64 b] w fun e w'=>e = .returned (.bool false)∧w=w':=by
  clear h
  go_enter Tryz.func166,Tryz.ntmps166
  go_wp2
  go_ret
  exact ⟨rfl,rfl⟩
theorem jd_new (g : Nat) (n b : Int) (w : World) (h : ClockD w g n) (hn : -9223372036854775808≤n∧n≤9223372036854775807) (hb : -9223372036854775808≤b∧b≤9223372036854775807) (d : Int) (hd : add n (max b 0)=d) :
    Calls Tryz.prog 108 #[.pointer (some ⟨g,1,none⟩),.int .i64 b] w fun e w'=>IdNew w b d e w':=by
  have HU:=Lib.hid (cd_until g n b w h hn hb)
  rw [hd] at HU
  have HA:=Lib.hid (At.alloc w [.int .i64 0,.int .i64 b,.int .i64 d] 244)
  have HB:=Lib.hid ((Below.refl w.heap.size w).alloc (Nat.le_refl _) (.cells #[.int .i64 0,.int .i64 b,.int .i64 d] 244))
  clear h hd hn hb
  go_enter Tryz.func108,Tryz.ntmps108
  go_wp2_with (go_at_call 158;refine HU.out.mono ?_;rintro e w' ⟨rfl,rfl⟩)
  go_ret
  exact ⟨rfl,HA.out,by simp,HB.out⟩
theorem jd_read (gc : Nat) (n : Int) (g : Nat) (s t d : Int) (w : World) (hc : ClockD w gc n) (hne : gc≠g) (hn : -9223372036854775808≤n∧n≤9223372036854775807) (hb : -9223372036854775808≤t∧t≤9223372036854775807) (h : IdleC w g s t d) (h0 : 0≤s) (h1 : s<2) (d' : Int) (hd : add n (max t 0)=d') :
    Calls Tryz.prog 170 #[.pointer (some ⟨g,0,none⟩),.pointer (some ⟨gc,1,none⟩)] w fun e w'=>e = .returned (.bool true)∧IdPost g 0 t d' w w':=by
  obtain ⟨hg,c0,z0,c1,z1,c2,z2⟩:=At.three h
  have HO:=Lib.hid (id_over g s t d w h ⟨h0,by omega⟩)
  have HU:=Lib.hid (cd_until gc n t w hc hn hb)
  rw [hd] at HU
  have HH:=Lib.hid h
  have hs2 : decide (2≤s)=false:=by simp;omega
  clear h hd hc hb hn h0 h1
  rw [hs2] at HO
  go_enter Tryz.func170,Tryz.ntmps170
  go_wp2_with (first|(go_at_call 218;refine HO.out.mono ?_;rintro e w' ⟨rfl,rfl⟩)|(go_at_call 158;refine HU.out.mono ?_;rintro e w' ⟨rfl,rfl⟩))
  go_ret
  exact ⟨rfl,by unfold IdleC;simpa using (At.set HH.out 0 (by simp) (.int .i64 0)).set 2 (by simp) (.int .i64 d'),((Upd.refl (fun k=>k=g) w).setCell (p:=⟨g,0,none⟩) (fun _=>rfl) _).setCell (p:=⟨g,2,none⟩) (fun _=>rfl) _⟩
theorem jd_tick (gc : Nat) (n : Int) (g : Nat) (t d : Int) (w : World) (hc : ClockD w gc n) (hne : gc≠g) (h : IdleC w g 0 t d) (h1 : d≤n) :
    Calls Tryz.prog 217 #[.pointer (some ⟨g,0,none⟩),.pointer (some ⟨gc,1,none⟩)] w fun e w'=>e = .returned (.bool true)∧IdPost g 1 t d w w':=by
  obtain ⟨hg,c0,z0,c1,z1,c2,z2⟩:=At.three h
  have HP:=Lib.hid (cd_past gc n d w hc)
  have HH:=Lib.hid h
  have hs2 : decide (d≤n)=true:=by simp;omega
  clear h hc h1
  rw [hs2] at HP
  go_enter Tryz.func217,Tryz.ntmps217
  go_wp2_with (go_at_call 250;refine HP.out.mono ?_;rintro e w' ⟨rfl,rfl⟩)
  go_ret
  exact ⟨rfl,by unfold IdleC;simpa using At.set HH.out 0 (by simp) (.int .i64 1),(Upd.refl (fun k=>k=g) w).setCell (p:=⟨g,0,none⟩) (fun _=>rfl) _⟩
theorem jd_tick_not (gc : Nat) (n : Int) (g : Nat) (s t d : Int) (w : World) (hc : ClockD w gc n) (h : IdleC w g s t d) (h1 : s=0→n<d) :
    Calls Tryz.prog 217 #[.pointer (some ⟨g,0,none⟩),.pointer (some ⟨gc,1,none⟩)] w fun e w'=>e = .returned (.bool false)∧w=w':=by
  obtain ⟨hg,c0,z0,c1,z1,c2,z2⟩:=At.three h
  by_cases e0 : s=0
  · subst e0
    have HP:=Lib.hid (cd_past gc n d w hc)
    have hs2 : decide (d≤n)=false:=by have:=h1 rfl;simp;omega
    clear h hc h1
    rw [hs2] at HP
    go_enter Tryz.func217,Tryz.ntmps217
    go_wp2_with (go_at_call 250;refine HP.out.mono ?_;rintro e w' ⟨rfl,rfl⟩)
    go_ret
    exact ⟨rfl,rfl⟩
  · have hz : (s != 0)=true:=by simpa using e0
    clear h hc h1
    go_enter Tryz.func217,Tryz.ntmps217
    go_wp2
    go_ret
    exact ⟨rfl,rfl⟩
end Go.Proofs.YtmimfkhkilijcaaGreatDoor
