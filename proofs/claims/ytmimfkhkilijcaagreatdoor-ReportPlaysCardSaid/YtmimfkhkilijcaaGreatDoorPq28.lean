/- KCur: what is reached of them. -/
import Derived.Test.YtmimfkhkilijcaaGreatDoorPq16
import Derived.Test.YtmimfkhkilijcaaGreatDoorPq27
import Derived.Test.YtmimfkhkilijcaaGreatDoorPq01
import Derived.Test.YtmimfkhkilijcaaGreatDoorPq25
import Derived.Deep.DeepCutAuto
import Derived.Deep.QuietTactic
import Derived.Deep.RegionWith
import Derived.BigQuiet
import Derived.Deep.RegionHeld3
set_option linter.unusedVariables false
set_option linter.unusedSimpArgs false
set_option maxRecDepth 100000
set_option maxHeartbeats 8000000
namespace Go.Proofs.YtmimfkhkilijcaaGreatDoor
namespace PFrame
open PVar PCrc
def cerr (l : List UInt8) : Nat:=if l=[] then 0 else (fget l).2.2
def cahead (l : List UInt8) : Nat:=if l=[] then 1 else if (fget l).2.2=0 then 0 else 2
theorem fget_nil : (fget []).2.2≠0:=by
  intro h
  obtain ⟨r,n,e,hf⟩ : ∃ r n e,fget []=(r,n,e):=⟨_,_,_,rfl⟩
  rw [hf] at h
  simp only at h
  subst h
  obtain ⟨_,_,h3,h4⟩:=fget_ok hf
  have:=encR_pos r
  simp at h4
  omega
theorem parse_step {l : List UInt8} {r : R} {rs : List R} {v e : Nat} (h : parse l=(r::rs,v,e)) :
    ∃ v',fget l=(r,(encR r).length,0)∧parse (l.drop (encR r).length)=(rs,v',e)∧v=(encR r).length+v'∧(encR r).length≤l.length∧cerr l=0∧cahead l=0∧okR r:=by
  have hl : l≠[]:=by intro hl;subst hl;rw [parse_nil] at h;cases h
  rcases fget_err l with he|⟨e',he,h1,h5⟩
  · obtain ⟨r',n,e0,hf⟩ : ∃ r n e,fget l=(r,n,e):=⟨_,_,_,rfl⟩
    rw [hf] at he
    simp only at he
    subst he
    obtain ⟨o1,o2,o3,o4⟩:=fget_ok hf
    rw [parse_more hf] at h
    simp only [Prod.mk.injEq,List.cons.injEq] at h
    obtain ⟨⟨rfl,h2⟩,h3,h4⟩:=h
    subst o3
    refine ⟨_,hf,?_,h3.symm,o4,?_,?_,o1⟩
    · rw [← h2,← h4]
    · unfold cerr;rw [if_neg hl,hf]
    · unfold cahead;rw [if_neg hl,hf];simp
  · rw [parse_bad hl (by rw [he];simp;omega)] at h
    cases h
theorem parse_stop {l : List UInt8} {v e : Nat} (h : parse l=([],v,e)) :
    v=0∧cerr l=e∧cahead l=(if e=0 then 1 else 2)∧(e=0↔l=[])∧(fget l).2.2≠0:=by
  by_cases hl : l=[]
  · subst hl
    rw [parse_nil] at h
    simp only [Prod.mk.injEq,true_and] at h
    obtain ⟨h1,h2⟩:=h
    subst h1;subst h2
    exact ⟨rfl,rfl,rfl,by simp,fget_nil⟩
  rcases fget_err l with he|⟨e',he,h1,h5⟩
  · obtain ⟨r',n,e0,hf⟩ : ∃ r n e,fget l=(r,n,e):=⟨_,_,_,rfl⟩
    rw [hf] at he
    simp only at he
    subst he
    rw [parse_more hf] at h
    cases h
  · have hne : (fget l).2.2≠0:=by rw [he];simp;omega
    rw [parse_bad hl hne] at h
    simp only [Prod.mk.injEq,true_and] at h
    obtain ⟨h2,h3⟩:=h
    refine ⟨h2.symm,?_,?_,?_,hne⟩
    · unfold cerr;rw [if_neg hl,h3]
    · unfold cahead;rw [if_neg hl,h3,if_neg (by rw [← h3];exact hne),if_neg (by rw [← h3];exact hne)]
    · exact ⟨fun h=>by rw [h3] at hne;exact absurd h hne,fun h=>absurd h hl⟩
end PFrame
open Go.ChangeShapes Go.WideShapes Go.ChangeAt Go.RowKit PVar PCrc PFrame
theorem At.four {w : World} {g : Nat} {a b c d : Value} (h : At w g [a,b,c,d]) : g<w.heap.size∧w.cell? ⟨g,0,none⟩=some a∧w.frozen? ⟨g,0,none⟩=false∧w.cell? ⟨g,1,none⟩=some b∧w.frozen? ⟨g,1,none⟩=false∧w.cell? ⟨g,2,none⟩=some c∧w.frozen? ⟨g,2,none⟩=false∧w.cell? ⟨g,3,none⟩=some d∧w.frozen? ⟨g,3,none⟩=false :=
  ⟨h.1,(h.2 0 (by simp)).1,(h.2 0 (by simp)).2,(h.2 1 (by simp)).1,(h.2 1 (by simp)).2,(h.2 2 (by simp)).1,(h.2 2 (by simp)).2,(h.2 3 (by simp)).1,(h.2 3 (by simp)).2⟩
def CurC (w : World) (g : Nat) (s : ByteArray) (k c : Nat) : Prop:=At w g [.string s,.func (.func 157) #[] #[],.int .i64 k,.int .i64 c]
theorem CurC.upd {S : Nat→Prop} {w w' : World} {g : Nat} {s : ByteArray} {k c : Nat} (h : CurC w g s k c) (hu : Upd S w w') (hn : ¬ S g) : CurC w' g s k c:=At.upd h hu hn
theorem CurC.on {w w' : World} {g : Nat} {s : ByteArray} {k c : Nat} (h : CurC w g s k c) (hb : Below w.heap.size w w') : CurC w' g s k c:=At.on h hb
theorem CurC.drew {w : World} {g : Nat} {s : ByteArray} {k c : Nat} (h : CurC w g s k c) : CurC w.drew g s k c:=At.drew h
theorem CurC.get {w : World} {g : Nat} {s : ByteArray} {k c : Nat} (h : CurC w g s k c) : w.cell? ⟨g,1,none⟩=some (.func (.func 157) #[] #[]):=(h.2 1 (by simp)).1
theorem CurC.made {w : World} {g : Nat} {s : ByteArray} {k c : Nat} (h : CurC w g s k c) (o : Obj) : CurC (w.alloc o) g s k c:=h.on ((Below.refl _ _).alloc (Nat.le_refl _) o)
theorem CurC.other {w : World} {g : Nat} {s : ByteArray} {k c : Nat} (h : CurC w g s k c) {p : Addr} (hp : p.block≠g) (u : Value) : CurC (w.setCell p u) g s k c:=At.set_other h hp u
theorem CurC.lt {w : World} {g : Nat} {s : ByteArray} {k c : Nat} (h : CurC w g s k c) : g<w.heap.size:=h.1
def KindAt (w : World) (g : Nat) (T : TypeId) : Prop:=∃ c fz,w.heap[g]? = some (.cells c T fz)
theorem KindAt.alloc (w : World) (c : Array Value) (T : TypeId) : KindAt (w.alloc (.cells c T)) w.heap.size T:=⟨c,(0,0),heap_alloc_new w _⟩
theorem KindAt.on {w w' : World} {g : Nat} {T : TypeId} (h : KindAt w g T) (hb : Below w.heap.size w w') : KindAt w' g T:=by
  obtain ⟨c,fz,h⟩:=h
  exact ⟨c,fz,by rw [hb.block g (Array.getElem?_eq_some_iff.1 h).1];exact h⟩
theorem KindAt.setCell {w : World} {g : Nat} {T : TypeId} (h : KindAt w g T) (p : Addr) (v : Value) : KindAt (w.setCell p v) g T:=by
  obtain ⟨c,fz,h⟩:=h
  unfold KindAt World.setCell
  simp only [Array.getElem?_modify]
  by_cases e : p.block=g
  · rw [if_pos e,h]
    exact ⟨_,_,rfl⟩
  · rw [if_neg e,h]
    exact ⟨_,_,rfl⟩
def CuNew (s : ByteArray) (w : World) (e : Ending) (w' : World) : Prop:=∃ g : Nat,e = .returned (.pointer (some ⟨g,0,none⟩))∧w.heap.size≤g∧CurC w' g s 0 0∧Below w.heap.size w w'∧KindAt w' g 242
theorem cu_new (s : ByteArray) (w : World) (hs : s.size≤100000) : Calls Tryz.prog 107 #[.string s] w (CuNew s w):=by
  have HC:=Lib.hid (fun w=>str_clone s w (by omega))
  go_enter Tryz.func107,Tryz.ntmps107
  go_wp2_with (first|(go_at_call 156;refine (HC.out _).mono ?_;rintro e w1 ⟨rfl,hb1⟩))
  go_ret
  exact ⟨_,rfl,by have:=hb1.size;simpa using this,At.alloc _ _ _,hb1.alloc hb1.size _,KindAt.alloc _ _ _⟩
theorem cu_count (g : Nat) (s : ByteArray) (k c : Nat) (w : World) (h : CurC w g s k c) :
    Calls Tryz.prog 118 #[.pointer (some ⟨g,0,none⟩)] w fun e w'=>e = .returned (.int .i64 c)∧w=w':=by
  obtain ⟨hg,c0,z0,c1,z1,c2,z2,c3,z3⟩:=At.four h
  go_enter Tryz.func118,Tryz.ntmps118
  go_wp2
  go_ret
  exact ⟨rfl,rfl⟩
theorem cu_left (g : Nat) (s : ByteArray) (k c : Nat) (w : World) (h : CurC w g s k c) (hk : k≤s.size) :
    Calls Tryz.prog 211 #[.pointer (some ⟨g,0,none⟩)] w fun e w'=>e = .returned (.string (bstr (s.data.toList.drop k)))∧Below w.heap.size w w':=by
  obtain ⟨hg,c0,z0,c1,z1,c2,z2,c3,z3⟩:=At.four h
  have hfrom:=fun w=>from_run (P:=Tryz.prog) w 9 s k k rfl Tryz.underlying9 hk
  go_enter Tryz.func211,Tryz.ntmps211
  go_wp2
  go_quiet (fail)
  go_wp2
  go_ret
  exact ⟨rfl,rfl,rfl,rfl,Nat.le_refl _,fun _ _=>rfl⟩
theorem drop_small (s : ByteArray) (k : Nat) (hs : s.size≤100000) : (bstr (s.data.toList.drop k)).size≤140737488355328:=by
  rw [size_bstr,List.length_drop,Array.length_toList]
  have : s.data.size=s.size:=rfl
  omega
theorem rec_put {B : Nat} {w1 X : World} {G : Nat} {a b c k t x : Value} (hX : At X G [a,b,c]) (hb : Below B w1 X) (hG : B≤G) :
    At (((X.setCell ⟨G,0,none⟩ k).setCell ⟨G,1,none⟩ t).setCell ⟨G,2,none⟩ x) G [k,t,x]∧Below B w1 (((X.setCell ⟨G,0,none⟩ k).setCell ⟨G,1,none⟩ t).setCell ⟨G,2,none⟩ x) :=
  ⟨((hX.set 0 (by simp) k).set 1 (by simp) t).set 2 (by simp) x,((hb.setCell hG _).setCell hG _).setCell hG _⟩
theorem cu_err (g : Nat) (s : ByteArray) (k c : Nat) (w : World) (h : CurC w g s k c) (hk : k≤s.size) (hs : s.size≤100000) :
    Calls Tryz.prog 163 #[.pointer (some ⟨g,0,none⟩)] w fun e w'=>e = .returned (.int .i64 (cerr (s.data.toList.drop k) : Nat))∧Below w.heap.size w w':=by
  have HL:=fun w h=>Lib.hid (cu_left g s k c w h hk)
  have HG:=fun w=>Lib.hid (fr_get (bstr (s.data.toList.drop k)) w (drop_small s k hs))
  by_cases hn : s.data.toList.drop k=[]
  · have e0 : cerr (s.data.toList.drop k)=0:=by unfold cerr;rw [if_pos hn]
    rw [e0]
    rw [hn] at HL
    have HL0:=HL w h
    clear HG h hk hs e0 hn HL
    go_enter Tryz.func163,Tryz.ntmps163
    go_wp2_with (first|(go_at_call 211;refine HL0.out.mono ?_;rintro e w1 ⟨rfl,hb1⟩))
    go_ret
    exact ⟨rfl,hb1⟩
  · have e0 : cerr (s.data.toList.drop k)=(fget (s.data.toList.drop k)).2.2:=by unfold cerr;rw [if_neg hn]
    rw [e0]
    rw [show (bstr (s.data.toList.drop k)).data.toList=s.data.toList.drop k from rfl] at HG
    have HL0:=HL w h
    have HH:=Lib.hid h
    clear h hk hs e0
    generalize s.data.toList.drop k=l at *
    generalize fget l=p at *
    obtain ⟨r,n,er⟩:=p
    have hne : (l == [])=false:=by rw [beq_eq_false_iff_ne];exact hn
    clear hn
    go_enter Tryz.func163,Tryz.ntmps163
    go_wp2_with (first|(go_at_call 211;refine HL0.out.mono ?_;rintro e w1 ⟨rfl,hb1⟩))
    have HA:=Lib.hid (HH.out.on hb1)
    obtain ⟨hg,c0,z0,c1,z1,c2,z2,c3,z3⟩:=At.four HA.out
    go_cut [5] (fun v wx=>v = .int .i64 er∧Below w1.heap.size w1 wx)
    case first =>
      go_region_held3 (fun wx=>wx.cell? ⟨g,1,none⟩=some (.func (.func 157) #[] #[])) (first|(with_reducible exact HA.out.drew.get)|(with_reducible exact (HA.out.made _).drew.get)|(with_reducible exact ca)|(with_reducible exact (hAa.made _).get)|(with_reducible exact cb)|(with_reducible exact (hA2.made _).get)|(with_reducible exact ((((hA2.made _).other (Nat.ne_of_gt hA2.lt) _).other (Nat.ne_of_gt hA2.lt) _).other (Nat.ne_of_gt hA2.lt) _).get)|(with_reducible exact (((hA2.other (Nat.ne_of_gt hAa.lt) _).other (Nat.ne_of_gt hAa.lt) _).other (Nat.ne_of_gt hAa.lt) _).get)|(with_reducible exact (((hA2.other (Nat.ne_of_gt HA.out.lt) _).other (Nat.ne_of_gt HA.out.lt) _).other (Nat.ne_of_gt HA.out.lt) _).get)|exact c1|fail) (first|(go_at_call 211;(first|(with_reducible refine (HL _ HA.out.drew).out.mono ?_)|(with_reducible refine (HL _ (HA.out.made _).drew).out.mono ?_));rintro e wa ⟨rfl,hba⟩;(first|(with_reducible have hAa:=HA.out.drew.on hba)|(with_reducible have hAa:=(HA.out.made _).drew.on hba));(first|(with_reducible have hBa:=on_below (Below.refl w1.heap.size w1).drew hba)|(with_reducible have hBa:=on_below ((Below.refl w1.heap.size w1).alloc (Nat.le_refl _) _).drew hba));have ca:=hAa.get)|(go_at_call 157;refine (HG _).out.mono ?_;rintro e w2 ⟨rfl,hb2⟩;(first|(with_reducible have hA2:=hAa.on hb2)|(with_reducible have hA2:=(hAa.made _).on hb2));(first|(with_reducible have hB2:=on_below hBa hb2)|(with_reducible have hB2:=on_below (hBa.alloc hBa.size _) hb2));have cb:=hA2.get;(first|(with_reducible have hG2:=(At.alloc wa [.int .i64 0,.int .i64 0,.string ⟨#[]⟩] 54).on hb2);obtain ⟨q0,q1,q2,q3,q4,q5,q6⟩:=hG2.three|(with_reducible have hG2:=((At.alloc w1 [.int .i64 0,.int .i64 0,.string ⟨#[]⟩] 54).drew.on hba).on hb2);obtain ⟨q0,q1,q2,q3,q4,q5,q6⟩:=hG2.three|skip)))
      all_goals (go_wp2_with fail;go_meet;first|exact ⟨rfl,hB2.alloc hB2.size _⟩|exact ⟨rfl,(rec_put hG2 hB2 hBa.size).2⟩|exact ⟨rfl,(rec_put hG2 hB2 (Nat.le_refl _)).2⟩)
    case rest =>
      obtain ⟨rfl,hb2⟩:=hcut
      go_wp2
      go_ret
      exact ⟨rfl,on_below hb1 hb2⟩
theorem cu_ahead (g : Nat) (s : ByteArray) (k c : Nat) (w : World) (h : CurC w g s k c) (hk : k≤s.size) (hs : s.size≤100000) :
    Calls Tryz.prog 159 #[.pointer (some ⟨g,0,none⟩)] w fun e w'=>e = .returned (.int .i64 (cahead (s.data.toList.drop k) : Nat))∧Below w.heap.size w w':=by
  have HL:=Lib.hid (cu_left g s k c w h hk)
  have HE:=fun w h=>Lib.hid (cu_err g s k c w h hk hs)
  have HH:=Lib.hid h
  by_cases hn : s.data.toList.drop k=[]
  · have e0 : cahead (s.data.toList.drop k)=1:=by unfold cahead;rw [if_pos hn]
    rw [e0]
    rw [hn] at HL
    clear HE h hk hs e0 hn
    go_enter Tryz.func159,Tryz.ntmps159
    go_wp2_with (first|(go_at_call 211;refine HL.out.mono ?_;rintro e w1 ⟨rfl,hb1⟩))
    go_ret
    exact ⟨rfl,hb1⟩
  · have e0 : cahead (s.data.toList.drop k)=if cerr (s.data.toList.drop k)=0 then 0 else 2:=by unfold cahead cerr;rw [if_neg hn,if_neg hn]
    rw [e0]
    clear h hk hs e0
    generalize s.data.toList.drop k=l at *
    generalize cerr l=er at *
    have hne : (l == [])=false:=by rw [beq_eq_false_iff_ne];exact hn
    clear hn
    by_cases h0 : er=0
    · subst h0
      go_enter Tryz.func159,Tryz.ntmps159
      go_wp2_with (first|(go_at_call 211;refine HL.out.mono ?_;rintro e w1 ⟨rfl,hb1⟩)|(go_at_call 163;refine (HE _ (HH.out.on hb1)).out.mono ?_;rintro e w2 ⟨rfl,hb2⟩))
      go_ret
      exact ⟨rfl,on_below hb1 hb2⟩
    · rw [if_neg h0]
      have hz : ((er : Int) == 0)=false:=by rw [beq_eq_false_iff_ne];omega
      go_enter Tryz.func159,Tryz.ntmps159
      go_wp2_with (first|(go_at_call 211;refine HL.out.mono ?_;rintro e w1 ⟨rfl,hb1⟩)|(go_at_call 163;refine (HE _ (HH.out.on hb1)).out.mono ?_;rintro e w2 ⟨rfl,hb2⟩))
      go_ret
      exact ⟨rfl,on_below hb1 hb2⟩
def CuPost (g : Nat) (s : ByteArray) (k c : Nat) (r : R) (w : World) (e : Ending) (w' : World) : Prop :=
  e = .returned (.tuple #[frec r,.bool true])∧CurC w' g s k c∧Upd (fun i=>i=g) w w'∧∀ T,KindAt w g T→KindAt w' g T
theorem cu_next (g : Nat) (s : ByteArray) (k c : Nat) (r : R) (n : Nat) (w : World) (h : CurC w g s k c) (hk : k≤s.size) (hs : s.size≤100000) (hc : c≤100000) (hf : fget (s.data.toList.drop k)=(r,n,0)) :
    Calls Tryz.prog 169 #[.pointer (some ⟨g,0,none⟩)] w (CuPost g s (k+n) (c+1) r w):=by
  have hn : n≤s.size:=by
    have:=(fget_ok hf).2.2.2
    rw [List.length_drop,Array.length_toList] at this
    have e : s.data.size=s.size:=rfl
    omega
  have hA:=h.on (show Below w.heap.size w (w.alloc (.cells #[.int .i64 0,.int .i64 0,.string ⟨#[]⟩] 54)) from (Below.refl _ _).alloc (Nat.le_refl _) _)
  have hR:=At.alloc w [.int .i64 0,.int .i64 0,.string ⟨#[]⟩] 54
  have hgl:=h.lt
  have hbK : Below w.heap.size w (w.alloc (.cells #[.int .i64 0,.int .i64 0,.string ⟨#[]⟩] 54)):=(Below.refl _ _).alloc (Nat.le_refl _) _
  have HKD : Hid (∀ (T : TypeId) (wx : World),KindAt w g T→Below (w.alloc (.cells #[.int .i64 0,.int .i64 0,.string ⟨#[]⟩] 54)).heap.size (w.alloc (.cells #[.int .i64 0,.int .i64 0,.string ⟨#[]⟩] 54)) wx→KindAt wx g T):=fun T wx h hb=>(h.on hbK).on hb
  clear hbK
  have hu0 : Upd (fun i=>i=g) w (w.alloc (.cells #[.int .i64 0,.int .i64 0,.string ⟨#[]⟩] 54)):=(Upd.refl _ w).alloc _
  have HG:=fun w=>Lib.hid (fr_get (bstr (s.data.toList.drop k)) w (drop_small s k hs))
  rw [show (bstr (s.data.toList.drop k)).data.toList=s.data.toList.drop k from rfl,hf] at HG
  have HL:=fun w h=>Lib.hid (cu_left g s k c w h hk)
  clear hf h
  generalize s.data.toList.drop k=l at *
  obtain ⟨rk,rt,rx⟩:=r
  have HA:=Lib.hid hA
  have HR:=Lib.hid hR
  obtain ⟨hg,c0,z0,c1,z1,c2,z2,c3,z3⟩:=At.four hA
  clear hA hR
  go_enter Tryz.func169,Tryz.ntmps169
  go_wp2
  generalize hw1 : w.alloc (.cells #[.int .i64 0,.int .i64 0,.string ⟨#[]⟩] 54)=w1 at *
  have hN : w.heap.size<w1.heap.size:=by rw [← hw1];simp
  clear hw1
  generalize hNN : w.heap.size=N at *
  have HNN:=Lib.hid hNN
  clear hNN
  go_cut [4,5,6] (fun v n' e' wx=>∃ G : Nat,v = .pointer (some ⟨G,0,none⟩)∧n' = .int .i64 n∧e' = .int .i64 0∧w1.heap.size≤G∧At wx G [.int .i64 rk,.int .i64 rt,.string (bstr rx)]∧Below w1.heap.size w1 wx)
  case first =>
    go_region_held3 (fun wx=>wx.cell? ⟨g,1,none⟩=some (.func (.func 157) #[] #[])) (first|(with_reducible exact HA.out.drew.get)|(with_reducible exact (HA.out.made _).drew.get)|(with_reducible exact ca)|(with_reducible exact (hAa.made _).get)|(with_reducible exact cb)|(with_reducible exact (hA2.made _).get)|(with_reducible exact ((((hA2.made _).other (Nat.ne_of_gt hA2.lt) _).other (Nat.ne_of_gt hA2.lt) _).other (Nat.ne_of_gt hA2.lt) _).get)|(with_reducible exact (((hA2.other (Nat.ne_of_gt hAa.lt) _).other (Nat.ne_of_gt hAa.lt) _).other (Nat.ne_of_gt hAa.lt) _).get)|(with_reducible exact (((hA2.other (Nat.ne_of_gt HA.out.lt) _).other (Nat.ne_of_gt HA.out.lt) _).other (Nat.ne_of_gt HA.out.lt) _).get)|exact c1|fail) (first|(go_at_call 211;(first|(with_reducible refine (HL _ HA.out.drew).out.mono ?_)|(with_reducible refine (HL _ (HA.out.made _).drew).out.mono ?_));rintro e wa ⟨rfl,hba⟩;(first|(with_reducible have hAa:=HA.out.drew.on hba)|(with_reducible have hAa:=(HA.out.made _).drew.on hba));(first|(with_reducible have hBa:=on_below (Below.refl w1.heap.size w1).drew hba)|(with_reducible have hBa:=on_below ((Below.refl w1.heap.size w1).alloc (Nat.le_refl _) _).drew hba));have ca:=hAa.get)|(go_at_call 157;refine (HG _).out.mono ?_;rintro e w2 ⟨rfl,hb2⟩;(first|(with_reducible have hA2:=hAa.on hb2)|(with_reducible have hA2:=(hAa.made _).on hb2));(first|(with_reducible have hB2:=on_below hBa hb2)|(with_reducible have hB2:=on_below (hBa.alloc hBa.size _) hb2));have cb:=hA2.get;(first|(with_reducible have hG2:=(At.alloc wa [.int .i64 0,.int .i64 0,.string ⟨#[]⟩] 54).on hb2);obtain ⟨q0,q1,q2,q3,q4,q5,q6⟩:=hG2.three|(with_reducible have hG2:=((At.alloc w1 [.int .i64 0,.int .i64 0,.string ⟨#[]⟩] 54).drew.on hba).on hb2);obtain ⟨q0,q1,q2,q3,q4,q5,q6⟩:=hG2.three|skip)))
    all_goals (go_wp2_with fail;go_meet;first|exact ⟨_,rfl,rfl,rfl,hB2.size,At.alloc w2 [.int .i64 rk,.int .i64 rt,.string (bstr rx)] 54,hB2.alloc hB2.size _⟩|exact ⟨_,rfl,rfl,rfl,hBa.size,rec_put hG2 hB2 hBa.size⟩|exact ⟨_,rfl,rfl,rfl,Nat.le_refl _,rec_put hG2 hB2 (Nat.le_refl _)⟩)
  case rest =>
    obtain ⟨G,rfl,rfl,rfl,hGl,hG,hb⟩:=hcut
    have hC:=HA.out.on hb
    have hR:=HR.out.on hb
    obtain ⟨hg,c0,z0,c1,z1,c2,z2,c3,z3⟩:=At.four hC
    obtain ⟨hG1,d0,y0,d1,y1,d2,y2⟩:=hG.three
    obtain ⟨hN1,f0,x0,f1,x1,f2,x2⟩:=hR.three
    have n1 : G≠g:=by omega
    have n2 : g≠G:=by omega
    have n3 : N≠g:=by omega
    have n4 : N≠G:=by omega
    obtain ⟨P0,P1,P2⟩:=((hR.set_other (p:=⟨g,2,none⟩) n3.symm (.int .i64 ((k : Int)+n))).set_other (p:=⟨g,3,none⟩) n3.symm (.int .i64 ((c : Int)+1))).put3
    have hu : Upd (fun i=>i=g) w wc:=hu0.trans (Upd.of_below (S:=fun _=>False) hb (fun i _ h=>by omega)) (fun _ _ h=>h.elim)
    have hC2:=((((hC.set 2 (by simp) (.int .i64 ((k : Int)+n))).set 3 (by simp) (.int .i64 ((c : Int)+1))).set_other (p:=⟨N,0,none⟩) n3 (.int .i64 rk)).set_other (p:=⟨N,1,none⟩) n3 (.int .i64 rt)).set_other (p:=⟨N,2,none⟩) n3 (.string (bstr rx))
    have hw : ∀ i,i=N→i<w.heap.size→i=g:=fun i e h=>by have:=HNN.out;omega
    have hu2:=((((hu.setCell (p:=⟨g,2,none⟩) (fun _=>rfl) (.int .i64 ((k : Int)+n))).setCell (p:=⟨g,3,none⟩) (fun _=>rfl) (.int .i64 ((c : Int)+1))).setCell (p:=⟨N,0,none⟩) (hw N rfl) (.int .i64 rk)).setCell (p:=⟨N,1,none⟩) (hw N rfl) (.int .i64 rt)).setCell (p:=⟨N,2,none⟩) (hw N rfl) (.string (bstr rx))
    have HC2:=Lib.hid hC2
    have HU2:=Lib.hid hu2
    clear hC2 hu2 hw
    go_wp2
    exact bodyPost_ret (v:=.tuple #[frec (rk,rt,rx),.bool true]) (by simp [results,Tryz.results169,go_sem,P0,P1,P2,hN1]) rfl ⟨rfl,HC2.out,HU2.out,fun T hT=>(((((HKD.out T _ hT hb).setCell _ _).setCell _ _).setCell _ _).setCell _ _).setCell _ _⟩
theorem cu_ahead_is (g : Nat) (s : ByteArray) (k c : Nat) (w : World) (z : Int) (h : CurC w g s k c) (hk : k≤s.size) (hs : s.size≤100000) (hz : ((cahead (s.data.toList.drop k) : Nat) : Int)=z) :
    Calls Tryz.prog 159 #[.pointer (some ⟨g,0,none⟩)] w fun e w'=>e = .returned (.int .i64 z)∧Below w.heap.size w w':=hz▸cu_ahead g s k c w h hk hs
theorem cu_err_is (g : Nat) (s : ByteArray) (k c : Nat) (w : World) (z : Int) (h : CurC w g s k c) (hk : k≤s.size) (hs : s.size≤100000) (hz : ((cerr (s.data.toList.drop k) : Nat) : Int)=z) :
    Calls Tryz.prog 163 #[.pointer (some ⟨g,0,none⟩)] w fun e w'=>e = .returned (.int .i64 z)∧Below w.heap.size w w':=hz▸cu_err g s k c w h hk hs
end Go.Proofs.YtmimfkhkilijcaaGreatDoor
