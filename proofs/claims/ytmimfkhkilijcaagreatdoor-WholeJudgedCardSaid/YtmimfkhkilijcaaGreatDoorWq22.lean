/- Punct: what is reached of them. -/
import Derived.Test.YtmimfkhkilijcaaGreatDoorWq20
import Derived.Test.YtmimfkhkilijcaaGreatDoorWq06
set_option linter.unusedVariables false
set_option linter.unusedSimpArgs false
set_option maxRecDepth 100000
set_option maxHeartbeats 8000000
namespace Go.Proofs.YtmimfkhkilijcaaGreatDoor
open Go.ChangeShapes Go.WideShapes Go.ChangeAt Go.RowKit
open PSign PClamp
def says (k : Int) (s : ByteArray) (n : Int) : Bool:=decide (k=2) || hasn (signs s.data.toList) n
theorem pu_new (n : Int) (w : World) :
    Calls Tryz.prog 154 #[.int .i64 n] w fun e w'=>e = .returned (.pointer (some ⟨w.heap.size,0,none⟩))∧w'=w.alloc (.cells #[.int .i64 0,.bool false,.int .i64 n] 280):=by
  go_enter Tryz.func154,Tryz.ntmps154
  go_wp2
  go_ret
  exact ⟨rfl,rfl⟩
theorem pu_says (k t : Int) (s : ByteArray) (n : Int) (w : World) (hn : -9223372036854775808≤n∧n≤9223372036854775807) (o : Bool) (ho : says k s n=o) :
    Calls Tryz.prog 306 #[.agg #[.int .i64 k,.int .i64 t,.string s],.int .i64 n] w fun e w'=>e = .returned (.bool o)∧Below w.heap.size w w':=by
  subst ho
  have hb0 : Below w.heap.size w (w.alloc (.cells #[.int .i64 k,.int .i64 t,.string s] 54)):=(Below.refl _ _).alloc (Nat.le_refl _) _
  have HH:=fun w=>Lib.hid (q_has s n w hn.1 hn.2)
  unfold says
  generalize hasn (signs s.data.toList) n=q at *
  by_cases hk : k=2
  · subst hk
    go_enter Tryz.func306,Tryz.ntmps306
    go_wp2
    go_ret
    exact ⟨rfl,hb0⟩
  · have hk2 : (k == 2)=false:=by simpa using hk
    have HK:=Lib.hid (show (decide (k=2) || q)=q by simp [hk])
    go_enter Tryz.func306,Tryz.ntmps306
    go_wp2_with (go_at_call 307;refine (HH _).out.mono ?_;rintro e w1 ⟨rfl,hb1⟩)
    go_ret
    exact ⟨ret_bool HK.out.symm,on_below hb0 hb1⟩
def rz (o : Bool) (m t : Int) : Int:=if o=true∧m<t then t else m
def PSeen (g : Nat) (m n : Int) (w w' : World) : Prop:=ClampC w' g m [.int .i64 n]∧Upd (fun k=>k=g) w w'
theorem pu_seen (g : Nat) (m n k t : Int) (s : ByteArray) (w : World) (h : ClampC w g m [.int .i64 n]) (hn : -9223372036854775808≤n∧n≤9223372036854775807) (o : Bool) (ho : says k s n=o) (M : Int) (hM : rz o m t=M) :
    Calls Tryz.prog 305 #[.pointer (some ⟨g,0,none⟩),.agg #[.int .i64 k,.int .i64 t,.string s]] w fun e w'=>e = .returned (.tuple #[])∧PSeen g M n w w':=by
  have HM:=Lib.hid hM
  clear hM
  have hlt:=h.lt
  have hne : g≠w.heap.size:=by omega
  have hA:=At.alloc w [.int .i64 k,.int .i64 t,.string s] 54
  have h':=h.alloc (.cells #[.int .i64 k,.int .i64 t,.string s] 54)
  have hu : Upd (fun k=>k=g) w (w.alloc (.cells #[.int .i64 k,.int .i64 t,.string s] 54)):=(Upd.refl _ w).alloc _
  have HS:=fun w'=>Lib.hid (pu_says k t s n w' hn o ho)
  go_enter Tryz.func305,Tryz.ntmps305
  go_wp2
  generalize hW : w.alloc (.cells #[.int .i64 k,.int .i64 t,.string s] 54)=w1 at *
  change At w1 w.heap.size [.int .i64 k,.int .i64 t,.string s] at hA
  obtain ⟨hr,r0,y0,r1,y1,r2,y2⟩:=hA.three
  have HH:=Lib.hid h'
  have HAt:=Lib.hid hA
  obtain ⟨n0,b0,hat,hm⟩:=h'
  have c2:=(hat.2 2 (by simp)).1
  simp only [List.getElem_cons_zero,List.getElem_cons_succ] at c2
  have hg:=hat.1
  clear hat hm h ho
  cases o
  · have hMm : M=m:=by rw [← HM.out];simp [rz]
    subst hMm
    go_region_with (first|(go_at_call 306;refine (HS _).out.mono ?_;rintro e w2 ⟨rfl,hb2⟩))
    all_goals
      go_wp2
      go_end0
      exact ⟨rfl,(HH.out.drew.on hb2),(hu.drew.trans (Upd.of_below hb2 (S:=fun k=>k=g) (fun i hi hk=>by omega)) (fun i _ e=>e))⟩
  · have HR:=Lib.hid (show (if m<t then t else m)=M by rw [← HM.out];simp [rz])
    have HC:=fun w' h=>Lib.hid (cl_raise g m t [.int .i64 n] w' h)
    go_region_with (first|(go_at_call 306;refine (HS _).out.mono ?_;rintro e w2 ⟨rfl,hb2⟩))
    all_goals
      have hcl:=HH.out.drew.on hb2
      have hA2:=HAt.out.drew.on hb2
      have hu2 : Upd (fun k=>k=g) w w2:=hu.drew.trans (Upd.of_below hb2 (S:=fun k=>k=g) (fun i hi hk=>by omega)) (fun i _ e=>e)
      have hg2:=hcl.lt
      obtain ⟨hr',r0',y0',r1',y1',r2',y2'⟩:=hA2.three
      have HCL:=Lib.hid hcl
      have HU2:=Lib.hid hu2
      clear hcl hA2 hu2 r0 r1 r2 y0 y1 y2 hr hu hb2
      go_wp2
      go_region_with (first|(go_at_call 213;refine (HC _ HCL.out.drew).out.mono ?_;rintro e w3 ⟨rfl,hrt⟩))
      all_goals
        obtain ⟨h1,h2⟩:=hrt
        rw [HR.out] at h1
        go_end0
        exact ⟨rfl,h1,HU2.out.drew.trans h2 (fun i _ e=>e)⟩
end Go.Proofs.YtmimfkhkilijcaaGreatDoor
