/- KCase: what is reached of them. -/
import Derived.Test.YtmimfkhkilijcaaGreatDoorPq10
import Derived.Laws.StructEq
import Derived.Test.YtmimfkhkilijcaaGreatDoorPq32
import Derived.Test.YtmimfkhkilijcaaGreatDoorPq01
set_option linter.unusedVariables false
set_option linter.unusedSimpArgs false
set_option maxRecDepth 100000
set_option maxHeartbeats 8000000
namespace Go.Proofs.YtmimfkhkilijcaaGreatDoor
open Go.ChangeShapes Go.WideShapes Go.ChangeAt Go.RowKit
open PHist PRing PSat PClamp PBound PFrame PVar PCrc PSign PTree PEv
structure CaseC (w : World) (a : Option Addr) (n c : Nat) (t d : Int) (b : Option Addr) (m c2 : Nat) (q : Option Addr) (nq c3 : Nat) (rs : List Rul) (ls : List ByteArray) (cs : List (Bool×Int)) : Prop where
  hru : RowU w a rs
  hn : n=rs.length
  hnc : n≤c
  hcm : c≤maxLen
  hfit : ∀ r∈rs,r.Fits
  ht : in64 t
  hd : in64 d
  hlo : RowS w b ls
  hm : m=ls.length
  hmc : m≤c2
  hc2m : c2≤maxLen
  hch : RowG w 2 chc q cs
  hnq : nq=cs.length
  hqc : nq≤c3
  hc3m : c3≤maxLen
  hci : ∀ x∈cs,in64 x.2
  hsl : ∀ s∈ls,s.size≤maxLen
abbrev ShCase : Sh:=.pair (.pair (.sl ShU) (.pair (.int .i64) (.pair (.int .i64) .unit))) (.pair (.sl .str) (.pair (.sl ShC) .unit))
theorem sl_shape {w : World} {s : Sh} {cs : List Value} {l : List s.T} (h : Rd w (.sl s) cs l) : ∃ a n c,cs=[.slice a n c]:=by
  rcases h with ⟨rfl,_⟩|⟨x,cap,el,rfl,_⟩
  · exact ⟨_,_,_,rfl⟩
  · exact ⟨_,_,_,rfl⟩
theorem Rd.strs_size {w : World} {cs : List Value} {l : List ByteArray} (h : Rd w (.sl .str) cs l) : ∀ s∈l,s.size≤maxLen:=by
  rcases h with ⟨-,h2⟩|⟨x,cap,el,-,-,-,hx⟩
  · have h3 : l=[]:=h2
    subst h3
    intro s hs
    cases hs
  · intro s hs
    obtain ⟨i,hi,rfl⟩:=List.mem_iff_getElem.1 hs
    exact (hx i l[i] (List.getElem?_eq_getElem hi)).2.2
theorem Rd.case {w : World} {c0 : Array Value} {d : ((List (Int×Int×Int×Int×Int×Unit))×Int×Int×Unit)×(List ByteArray)×(List (Bool×Int×Unit))×Unit} (h : Rd w ShCase c0.toList d) :
    ∃ a n c t dr b m c2 q nq c3 rs ls cs,c0 = #[.slice a n c,.int .i64 t,.int .i64 dr,.slice b m c2,.slice q nq c3]∧CaseC w a n c t dr b m c2 q nq c3 rs ls cs:=by
  obtain ⟨⟨l,t,dr,u⟩,ls,lc,u2⟩:=d
  obtain ⟨x1,y1,e0,⟨x2,y2,e2,h2,x3,y3,e3,⟨e4,h4⟩,x5,y5,e5,⟨e6,h6⟩,h7⟩,x8,y8,e8,h8,x9,y9,e9,h9,h10⟩:=h
  have h7' : y5=[]:=h7
  have h10' : y9=[]:=h10
  obtain ⟨a,n,c,rfl⟩:=sl_shape h2
  obtain ⟨b,m,c2,rfl⟩:=sl_shape h8
  obtain ⟨q,nq,c3,rfl⟩:=sl_shape h9
  subst h7' h10' e9 e8 e6 e5 e4 e3 e2
  have hR : n=l.length∧n≤c∧c≤maxLen∧RowG w 5 ruf a l∧∀ x∈l,ruq x:=Rd.rowG (s:=ShU) 5 rfl (by decide) ruf ruq (fun w cs d h=>Rd.ru h) h2
  obtain ⟨g1,g2,g3,g4,g5⟩:=hR
  obtain ⟨s1,s2,s3,s4⟩:=Rd.strs h8
  obtain ⟨k1,k2,k3,k4,k5⟩:=Rd.chs h9
  refine ⟨a,n,c,t,dr,b,m,c2,q,nq,c3,l.map toU,ls,lc.map toC,?_,⟨RowG.map (f:=Rul.cells) (g:=toU) g4,by simpa using g1,g2,g3,fun r hr=>?_,bounds_i64 h4,bounds_i64 h6,s4,s1,s2,s3,k4,k1,k2,k3,k5,Rd.strs_size h8⟩⟩
  · apply Array.ext'
    rw [e0]
    rfl
  · obtain ⟨y,hy,rfl⟩:=List.mem_map.1 hr
    exact g5 y hy
theorem CaseC.on {w w' : World} {a : Option Addr} {n c : Nat} {t d : Int} {b : Option Addr} {m c2 : Nat} {q : Option Addr} {nq c3 : Nat} {rs : List Rul} {ls : List ByteArray} {cs : List (Bool×Int)} (h : CaseC w a n c t d b m c2 q nq c3 rs ls cs) (hb : Below w.heap.size w w') : CaseC w' a n c t d b m c2 q nq c3 rs ls cs :=
  ⟨h.hru.below hb,h.hn,h.hnc,h.hcm,h.hfit,h.ht,h.hd,h.hlo.below hb,h.hm,h.hmc,h.hc2m,h.hch.below hb,h.hnq,h.hqc,h.hc3m,h.hci,h.hsl⟩
def SmallC (n m nq : Nat) (ls : List ByteArray) : Prop:=m≤8∧nq≤120∧n≤5000∧∀ s∈ls,s.size≤400
def SmallPost (n m nq : Nat) (ls : List ByteArray) (w : World) (e : Ending) (w' : World) : Prop:=∃ z : Int,e = .returned (.int .i64 z)∧(z=0∨(z=1∧SmallC n m nq ls))∧Below w.heap.size w w'
theorem law_small (a : Option Addr) (n c : Nat) (t d : Int) (b : Option Addr) (m c2 : Nat) (q : Option Addr) (nq c3 : Nat) (ls : List ByteArray) (w : World) (h : RowS w b ls) (hm : m=ls.length) (hl : ∀ s∈ls,s.size≤9223372036854775807) :
    Calls Tryz.prog 9 #[.agg #[.slice a n c,.int .i64 t,.int .i64 d,.slice b m c2,.slice q nq c3]] w (SmallPost n m nq ls w):=by
  have hb0 : Below w.heap.size w (w.alloc (.cells #[.slice a n c,.int .i64 t,.int .i64 d,.slice b m c2,.slice q nq c3] 28)):=(Below.refl _ _).alloc (Nat.le_refl _) _
  by_cases h1 : m≤8
  · by_cases h2 : nq≤120
    · by_cases h3 : n≤5000
      · have h1' : (m : Int)≤8:=by omega
        have h2' : (nq : Int)≤120:=by omega
        have h3' : (n : Int)≤5000:=by omega
        have HM:=Lib.hid hm
        have H1:=Lib.hid h1
        have H2:=Lib.hid h2
        have H3:=Lib.hid h3
        have hrow:=h.below hb0
        clear hm h1 h2 h3
        go_enter Tryz.func9,Tryz.ntmps9
        go_wp2
        generalize w.alloc (.cells #[.slice a n c,.int .i64 t,.int .i64 d,.slice b m c2,.slice q nq c3] 28)=w0 at *
        go_loopw [4,25] (fun v i wr=>∃ k : Nat,k≤m∧i = .int .i64 k∧wr=w0∧Hid (∀ j (hj : j<ls.length),j<k→(ls[j]).size≤400)) (fun _ i _=>m - (intOf i).toNat)
        case atStart=>exact ⟨0,Nat.zero_le _,rfl,rfl,fun j _ h=>(Nat.not_lt_zero _ h).elim⟩
        case round =>
          obtain ⟨k,hk,rfl,rfl,hall⟩:=hrel
          by_cases hlt : k<m
          · have hkl : k<ls.length:=by rw [← HM.out];exact hlt
            obtain ⟨bs,offs,hs',-,-⟩:=hrow.at_ k hkl
            subst hs'
            obtain ⟨hbb,r0⟩:=hrow.cell k hkl
            generalize hx : ls[k]=x at *
            have HX:=Lib.hid hx
            clear hx
            by_cases h4 : x.size≤400
            · have h4' : (x.size : Int)≤400:=by omega
              have H4:=Lib.hid h4
              clear h4
              go_wp2
              go_roundw
              case rel=>exact ⟨k+1,by omega,by go_num,trivial,fun j hj hjk=>by
                by_cases e : j=k
                · subst e;rw [HX.out];exact H4.out
                · exact hall.out j hj (by omega)⟩
              case measure=>simp [intOf];omega
            · have h4' : (400 : Int)<(x.size : Int):=by omega
              clear h4
              go_wp2
              go_ret
              exact ⟨0,rfl,.inl rfl,hb0⟩
          · obtain rfl : k=m:=by omega
            go_wp2
            go_ret
            exact ⟨1,rfl,.inr ⟨rfl,H1.out,H2.out,H3.out,fun s hs=>by
              obtain ⟨j,hj,rfl⟩:=List.mem_iff_getElem.1 hs
              exact hall.out j hj (by rw [HM.out];exact hj)⟩,hb0⟩
      · have h1' : (m : Int)≤8:=by omega
        have h2' : (nq : Int)≤120:=by omega
        have h3' : (5000 : Int)<(n : Int):=by omega
        clear h1 h2 h3 hm
        go_enter Tryz.func9,Tryz.ntmps9
        go_wp2
        go_ret
        exact ⟨0,rfl,.inl rfl,hb0⟩
    · have h1' : (m : Int)≤8:=by omega
      have h2' : (120 : Int)<(nq : Int):=by omega
      clear h1 h2 hm
      go_enter Tryz.func9,Tryz.ntmps9
      go_wp2
      go_ret
      exact ⟨0,rfl,.inl rfl,hb0⟩
  · have h1' : (8 : Int)<(m : Int):=by omega
    clear h1 hm
    go_enter Tryz.func9,Tryz.ntmps9
    go_wp2
    go_ret
    exact ⟨0,rfl,.inl rfl,hb0⟩
theorem one_new : St.newE 1 [⟨0,0,0,0,0⟩] [[]]=[.mark 9223372036854775807]:=by
  have hp : Pt.raw 1 ⟨0,0,0,0,0⟩ []=⟨⟨0,0,0,0,0⟩,[],0,0,0,1⟩:=by unfold Pt.raw;rw [parse_nil]
  unfold St.newE begun raws
  simp only [List.zipWith_cons_cons,List.zipWith_nil_right,hp,List.map_cons,List.map_nil,List.length_cons,List.length_nil]
  rfl
theorem one_nerr : nerr [⟨0,0,0,0,0⟩] 1 0 1=0:=by decide
end Go.Proofs.YtmimfkhkilijcaaGreatDoor
