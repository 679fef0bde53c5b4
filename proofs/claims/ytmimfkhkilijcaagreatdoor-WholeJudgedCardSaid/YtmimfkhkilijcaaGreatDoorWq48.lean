/- KJuD: what is reached of them. -/
import Derived.Test.YtmimfkhkilijcaaGreatDoorWq38
import Derived.Test.YtmimfkhkilijcaaGreatDoorWq26
import Derived.Test.YtmimfkhkilijcaaGreatDoorWq32
import Derived.Test.YtmimfkhkilijcaaGreatDoorWq09
import Derived.Test.YtmimfkhkilijcaaGreatDoorWq40
import Derived.Test.YtmimfkhkilijcaaGreatDoorWq27
import Derived.Deep.RegionHeld3
import Derived.Deep.DeepCutAuto
import Derived.Test.YtmimfkhkilijcaaGreatDoorWq20
import Derived.BigQuiet
import Derived.BigRegion
import Derived.Test.YtmimfkhkilijcaaGreatDoorWq29
set_option linter.unusedVariables false
set_option linter.unusedSimpArgs false
set_option maxRecDepth 100000
set_option maxHeartbeats 8000000
namespace Go.Proofs.YtmimfkhkilijcaaGreatDoor
open Go.ChangeShapes Go.WideShapes Go.ChangeAt Go.RowKit
open PHist PRing PSat PClamp PBound PFrame PSign PTree PEv
def ifs (T G : Nat→Nat) (n : Nat) : List Value:=(List.range n).map fun i=>Value.iface (T i) (.pointer (some ⟨G i,0,none⟩))
theorem ifs_at (T G : Nat→Nat) (n i : Nat) (h : i<n) : (ifs T G n)[i]? = some (.iface (T i) (.pointer (some ⟨G i,0,none⟩))):=by simp [ifs,h]
theorem ifs_put (T G : Nat→Nat) (n t g : Nat) : ifs (put T n t) (put G n g) (n+1)=ifs T G n++[.iface t (.pointer (some ⟨g,0,none⟩))]:=by
  unfold ifs
  rw [List.range_succ,List.map_append]
  congr 1
  · refine List.map_congr_left fun i hi=>?_
    have:=List.mem_range.1 hi
    unfold PTree.put
    rw [if_neg (by omega),if_neg (by omega)]
  · simp [PTree.put]
structure Wys (B : Nat) (w : World) (tag : Nat→Nat) (W : Nat→Nat→Prop) (T G : Nat→Nat) (n : Nat) (rs : List Rul) (f : Nat→List R) (v : Value) : Prop where
  gen : ∀ i,i<n→GenC w (W i) (T i) (G i) (rulAt rs i) (f i)
  tg : ∀ i,i<n→∀ b,W i b→tag b=i+1
  own : ∀ i,i<n→∀ b,W i b→B≤b
  row : Sl B w 1 v n (ifs T G n)
  rt : ∀ b,v.ownBlock=some b→tag b=0
section
variable {B : Nat} {w w' : World} {tag : Nat→Nat} {W : Nat→Nat→Prop} {T G : Nat→Nat} {n : Nat} {rs : List Rul} {f : Nat→List R} {v : Value}
theorem Wys.on (h : Wys B w tag W T G n rs f v) (hb : Below w.heap.size w w') : Wys B w' tag W T G n rs f v:=⟨fun i hi=>(h.gen i hi).on hb,h.tg,h.own,h.row.onW hb,h.rt⟩
theorem Wys.retag (h : Wys B w tag W T G n rs f v) (t : Nat) : Wys B w (Go.Proofs.YtmimfkhkilijcaaGreatDoor.retag tag w.heap.size t) W T G n rs f v :=
  ⟨h.gen,fun i hi b hb=>(retag_old ((h.gen i hi).lt b hb)).trans (h.tg i hi b hb),h.own,h.row,fun b hb=>(retag_old (h.row.lt b hb).2).trans (h.rt b hb)⟩
theorem Wys.seen (h : Wys B w tag W T G n rs f v) (i : Nat) (hi : i<n) (l : List R) (hp : GPost (W i) (T i) (G i) (rulAt rs i) l w w') (hB : B≤w.heap.size) :
    (∃ tag' W',Wys B w' tag' W' T G n rs (put f i l) v)∧Below B w w':=by
  obtain ⟨S',h1,h2,h3⟩:=hp
  have r:=h.retag (i+1)
  refine ⟨⟨Go.Proofs.YtmimfkhkilijcaaGreatDoor.retag tag w.heap.size (i+1),put W i S',⟨fun j hj=>?_,fun j hj b hb=>?_,fun j hj b hb=>?_,h.row.upd h2 (fun k hk hs=>?_),r.rt⟩⟩,(Below.refl B w).upd h2 hB (fun k _ hs=>h.own i hi k hs)⟩
  · unfold PTree.put
    by_cases e : j=i
    · subst e
      rw [if_pos rfl,if_pos rfl];exact h1
    · rw [if_neg e,if_neg e]
      refine (h.gen j hj).upd h2 fun k hk hs=>?_
      have a1:=h.tg j hj k hk
      have a2:=h.tg i hi k hs
      omega
  · unfold PTree.put at hb
    by_cases e : j=i
    · subst e
      rw [if_pos rfl] at hb
      rcases h3 b hb with hs|hs
      · exact r.tg j hj b hs
      · exact retag_new hs
    · rw [if_neg e] at hb
      exact r.tg j hj b hb
  · unfold PTree.put at hb
    by_cases e : j=i
    · subst e
      rw [if_pos rfl] at hb
      rcases h3 b hb with hs|hs
      · exact h.own j hj b hs
      · omega
    · rw [if_neg e] at hb
      exact h.own j hj b hb
  · have a1:=h.rt k hk
    have a2:=h.tg i hi k hs
    omega
theorem Wys.more {w1 w3 : World} {v' : Value} (h : Wys B w tag W T G n rs (fun _=>[]) v) (t g : Nat) (S : Nat→Prop) (hg : GenC w1 S t g (rulAt rs n) []) (hS : ∀ k,S k→w.heap.size≤k) (hb : Below w.heap.size w w1) (hB : B≤w.heap.size) (w2 : World) (hb2 : Below w1.heap.size w1 w2)
    (k1 : Sl B w3 1 v' (n+1) (ifs T G n++[.iface t (.pointer (some ⟨g,0,none⟩))])) (k2 : Upd (fun k=>v.ownBlock=some k) w2 w3) (k3 : ∀ k,v'.ownBlock=some k→v.ownBlock=some k∨w2.heap.size≤k) :
    ∃ tag' W' T' G',Wys B w3 tag' W' T' G' (n+1) rs (fun _=>[]) v':=by
  have r:=h.retag (n+1)
  have h1:=r.on hb
  have hSlt:=hg.lt
  refine ⟨Go.Proofs.YtmimfkhkilijcaaGreatDoor.retag (Go.Proofs.YtmimfkhkilijcaaGreatDoor.retag tag w.heap.size (n+1)) w1.heap.size 0,put W n S,put T n t,put G n g,⟨fun j hj=>?_,fun j hj b hb'=>?_,fun j hj b hb'=>?_,by rw [ifs_put];exact k1,fun b hb'=>?_⟩⟩
  · unfold PTree.put
    by_cases e : j=n
    · subst e
      rw [if_pos rfl,if_pos rfl,if_pos rfl]
      refine (hg.on hb2).upd k2 fun k hk hs=>?_
      have:=(h.row.lt k hs).2
      have:=hS k hk
      omega
    · rw [if_neg e,if_neg e,if_neg e]
      refine ((h1.gen j (by omega)).on hb2).upd k2 fun k hk hs=>?_
      have a1:=h.tg j (by omega) k hk
      have a2:=h.rt k hs
      omega
  · unfold PTree.put at hb'
    by_cases e : j=n
    · subst e
      rw [if_pos rfl] at hb'
      exact (retag_old (hSlt b hb')).trans (retag_new (hS b hb'))
    · rw [if_neg e] at hb'
      exact (retag_old ((h1.gen j (by omega)).lt b hb')).trans (r.tg j (by omega) b hb')
  · unfold PTree.put at hb'
    by_cases e : j=n
    · subst e
      rw [if_pos rfl] at hb'
      exact Nat.le_trans hB (hS b hb')
    · rw [if_neg e] at hb'
      exact h.own j (by omega) b hb'
  · rcases k3 b hb' with hs|hs
    · exact (retag_old (h1.row.lt b hs).2).trans (r.rt b hs)
    · exact retag_new (Nat.le_trans hb2.size hs)
theorem Wys.at_ (h : Wys B w tag W T G n rs f v) (i : Nat) (hi : i<n) : ∃ b off c,v = .slice (some ⟨b,off,none⟩) n c∧b<w.heap.size∧w.cell? ⟨b,off+i,none⟩=some (.iface (T i) (.pointer (some ⟨G i,0,none⟩))):=by
  rcases h.row.2 with ⟨h1,h2⟩|⟨b,off,c,rfl,h2,h3,h4,h5,h6,h7⟩
  · omega
  · exact ⟨b,off,c,rfl,h3,by rw [h6 i (by omega)];exact ifs_at T G n i hi⟩
end
theorem rulesB_true (rs : List Rul) : rulesB rs=true↔∀ r∈rs,rcheck r=0:=by
  unfold rulesB
  rw [List.all_eq_true]
  exact ⟨fun h r hr=>by simpa using h r hr,fun h r hr=>decide_eq_true (h r hr)⟩
def WaysPost (rs : List Rul) (o : Bool) (w : World) (e : Ending) (w' : World) : Prop :=
  Below w.heap.size w w'∧((o=false∧e = .returned (.tuple #[.slice none 0 0,.bool false]))∨(o=true∧∃ v tag W T G,e = .returned (.tuple #[v,.bool true])∧Wys w.heap.size w' tag W T G rs.length rs (fun _=>[]) v))
theorem info_way : (Tryz.prog.info? 138).map (fun i=>(i.zero,i.size,i.bytes))=some (some .nilIface,1,16):=by kernel_rfl
theorem ju_ways (rs : List Rul) (a : Option Addr) (n c : Nat) (w : World) (hr : RowU w a rs) (hn : n=rs.length) (hl : n≤100000) (o : Bool) (ho : rulesB rs=o) :
    Calls Tryz.prog 76 #[.slice a n c] w (WaysPost rs o w):=by
  have HN:=Lib.hid hn
  have HO:=Lib.hid ho
  clear hn ho
  obtain ⟨i0,hi,hz0,hz1,hz2⟩:=info_parts info_way
  have h0 : Wys w.heap.size w (fun _=>0) (fun _ _=>False) (fun _=>0) (fun _=>0) 0 rs (fun _=>[]) (.slice none 0 0):=⟨fun i h=>(Nat.not_lt_zero _ h).elim,fun i h=>(Nat.not_lt_zero _ h).elim,fun i h=>(Nat.not_lt_zero _ h).elim,Sl.nil _ _ _,fun b hb=>rfl⟩
  go_enter Tryz.func76,Tryz.ntmps76
  go_wp2
  go_loopw [4,11] (fun v i wr=>∃ (k : Nat) (tag : Nat→Nat) (W : Nat→Nat→Prop) (T G : Nat→Nat),i = .int .i64 k∧k≤n∧Wys w.heap.size wr tag W T G k rs (fun _=>[]) v∧Hid (∀ j (h : j<rs.length),j<k→rcheck rs[j]=0)∧Below w.heap.size w wr) (fun _ i _=>n - (intOf i).toNat)
  case atStart=>exact ⟨0,_,_,_,_,rfl,Nat.zero_le _,h0,fun j _ h=>(Nat.not_lt_zero _ h).elim,Below.refl _ _⟩
  case round =>
    clear h0
    obtain ⟨k,tag,W,T,G,rfl,hk,hW,HOK,hb⟩:=hrel
    by_cases hlt : k<n
    · have hk1 : k<rs.length:=by rw [← HN.out];exact hlt
      have hrow:=hr.below hb
      obtain ⟨b1,o1,rfl,-,-⟩:=hrow.at_ k hk1
      obtain ⟨hbl1,p0,p1,p2,p3,p4⟩:=RowU.cells hrow k hk1
      have hra:=rulAt_lt hk1
      have hnx : rcheck rs[k]=0→∀ j (h : j<rs.length),j<k+1→rcheck rs[j]=0:=fun h0 j hj hjk=>by
        by_cases e : j=k
        · subst e;exact h0
        · exact HOK.out j hj (by omega)
      have hno : rcheck rs[k]≠0→o=false:=fun h0=>by
        rw [← HO.out]
        cases hh : rulesB rs
        · rfl
        · exact absurd ((rulesB_true rs).1 hh _ (List.getElem_mem hk1)) h0
      obtain ⟨av,cv,rfl⟩:=hW.row.shape
      have hwB:=hb.size
      have hba:=(Below.refl wr.heap.size wr).alloc (Nat.le_refl _) (.cells rs[k].cells.toArray 59)
      have hO:=fun (h : rcheck rs[k]=0) wx=>Lib.hid (gn_of rs[k] wx h)
      have hX:=fun (z : Int) (hz : rcheck rs[k]=z) (h0 : z≠0) wx=>Lib.hid (gn_of_none rs[k] wx z hz h0)
      have HNX:=Lib.hid hnx
      have HNO:=Lib.hid hno
      have HRA:=Lib.hid hra
      clear hrow hra hnx hno
      generalize rs[k]=r at *
      obtain ⟨rk,rb,rp,rn,rsg⟩:=r
      simp only at p0 p1 p2 p3 p4
      simp only [Rul.val] at hO hX
      simp only [Rul.cells] at hba
      by_cases hz : rcheck ⟨rk,rb,rp,rn,rsg⟩=0
      · have HOF:=fun wx=>hO hz wx
        have HW:=Lib.hid (hW.on hba)
        have HNN:=Lib.hid (HNX.out hz)
        have hbB:=hb.trans (hba.mono hwB)
        have hwa : w.heap.size≤(wr.alloc (.cells #[.int .i64 rk,.int .i64 rb,.int .i64 rp,.int .i64 rn,.int .i64 rsg] 59)).heap.size:=Nat.le_trans hwB hba.size
        clear hO hX hz HNO HNX
        go_wp2_with (first|(go_at_call 106;(with_reducible refine (HOF _).out.mono ?_);intro e w4 hof;obtain ⟨t,g,S4,rfl,hG4,hS4,hb4⟩:=hof;have hS3:=(HW.out.on hb4).row;have hw4:=Nat.le_trans hwa hb4.size;have hbx : Below w4.heap.size w4 (w4.alloc (.cells #[.iface t (.pointer (some ⟨g,0,none⟩))] 138)):=(Below.refl _ _).alloc (Nat.le_refl _) _)|(at_builtin;refine wpList_append_sl _ rfl (.tmp 22) (.tmp 24) 134 134 rfl 138 i0 _ 16 Tryz.underlying134 hi hz0 hz1 hz2 rfl rfl (hS3.alloc _) _ 1 [.iface t (.pointer (some ⟨g,0,none⟩))] rfl (src_oneN Tryz.underlying134 _ _ _ _ rfl rfl) (by unfold maxLen;omega) (by omega) (by simp;omega) ?_;intro v1 w5 k1 k2 k3;obtain ⟨av1,cv1,rfl⟩:=k1.shape))
        obtain ⟨tag2,W2,T2,G2,hm⟩:=HW.out.more t g S4 (by rw [HRA.out];exact hG4) hS4 hb4 hwa _ hbx k1 k2 k3
        go_roundw
        case rel=>exact ⟨k+1,tag2,W2,T2,G2,by go_num,hlt,hm,HNN,((hbB.trans (hb4.mono hwa)).alloc hw4 _).upd k2 (by simp;omega) (fun i _ hi=>(hS3.lt i hi).1)⟩
        case measure=>simp [intOf] <;> omega
      · obtain rfl : o=false:=HNO.out hz
        obtain ⟨z,hzz⟩ : ∃ z,rcheck ⟨rk,rb,rp,rn,rsg⟩=z:=⟨_,rfl⟩
        rw [hzz] at hz
        have HXF:=fun wx=>hX z hzz hz wx
        have hz0 : (z != 0)=true:=by rw [bne_iff_ne];exact hz
        have hbB:=hb.trans (hba.mono hwB)
        have hwa : w.heap.size≤(wr.alloc (.cells #[.int .i64 rk,.int .i64 rb,.int .i64 rp,.int .i64 rn,.int .i64 rsg] 59)).heap.size:=Nat.le_trans hwB hba.size
        clear hO hX hz HNO HNX hzz
        go_wp2_with (first|(go_at_call 106;(with_reducible refine (HXF _).out.mono ?_);rintro e w4 ⟨rfl,hb4⟩))
        go_ret2
        exact ⟨hbB.trans (hb4.mono hwa),.inl ⟨rfl,rfl⟩⟩
    · obtain rfl : k=n:=by omega
      obtain rfl : o=true:=by
        rw [← HO.out,rulesB_true]
        intro r hr
        obtain ⟨j,hj,rfl⟩:=List.mem_iff_getElem.1 hr
        exact HOK.out j hj (by rw [HN.out];exact hj)
      go_wp2
      go_ret2
      exact ⟨hb,.inr ⟨rfl,_,_,_,_,_,rfl,by rw [← HN.out];exact hW⟩⟩
theorem driftAt_drop (rs : List Rul) (d : Int) (f : Nat→List R) (m : Int) (l : List Ev) (k : Nat) (h : k<l.length) (e : Ev) (he : l[k]=e) : driftAt rs d f m (l.drop k)=driftAt rs d f m (e::l.drop (k+1)):=by
  rw [List.drop_eq_getElem_cons h,he]
def FewR (f : Nat→List R) (k : Nat) : Prop:=∀ i,(f i).length≤k∧InR (f i)
theorem FewR.put {f : Nat→List R} {k : Nat} (h : FewR f k) (i : Nat) (r : R) (hr : in64 r.1∧in64 r.2.1) : FewR (put f i (f i++[r])) (k+1):=by
  intro j
  unfold PTree.put
  by_cases e : j=i
  · rw [if_pos e]
    refine ⟨by rw [List.length_append];have:=(h i).1;simp;omega,fun x hx=>?_⟩
    rcases List.mem_append.1 hx with hx|hx
    · exact (h i).2 x hx
    · rw [List.mem_singleton.1 hx];exact hr
  · rw [if_neg e]
    exact ⟨by have:=(h j).1;omega,(h j).2⟩
theorem ju_drifted (rs : List Rul) (t d : Int) (a : Option Addr) (n c : Nat) (w : World) (hr : RowU w a rs) (hn : n=rs.length) (hnl : n≤100000) (hf : ∀ r∈rs,r.Fits) (hd : in64 d) (b : Option Addr) (N c2 : Nat) (l : List Ev) (hrl : RowE w b l) (hN : N=l.length) (hl : N≤700) (hok : ∀ e∈l,e.ok) (o : Bool) (ho : driftB rs d l=o) :
    Calls Tryz.prog 33 #[.agg #[.slice a n c,.int .i64 t,.int .i64 d],.slice b N c2] w fun e w'=>e = .returned (.bool o)∧Below w.heap.size w w':=by
  have hb0 : Below w.heap.size w (w.alloc (.cells #[.slice a n c,.int .i64 t,.int .i64 d] 24)):=(Below.refl _ _).alloc (Nat.le_refl _) _
  have hA:=At.alloc w [.slice a n c,.int .i64 t,.int .i64 d] 24
  have HW:=fun o (ho : rulesB rs=o)=>Lib.hid (ju_ways rs a n c _ (hr.below hb0) hn hnl o ho)
  have HSA:=fun (x : Int) (hx : in64 x) wx=>Lib.hid (sat_add x d wx hx hd)
  unfold driftB at ho
  cases hrb : rulesB rs
  · rw [hrb,Bool.false_and] at ho
    subst ho
    have HW2:=HW false hrb
    obtain ⟨hg,c0,z0,c1,z1,c2',z2⟩:=hA.three
    clear HW hrb hn hN hr
    go_enter Tryz.func33,Tryz.ntmps33
    go_wp2_with (first|(go_at_call 76;(with_reducible refine HW2.out.mono ?_);intro e w1 hP;obtain ⟨hb1,h1⟩:=hP;obtain ⟨-,rfl⟩:=h1.resolve_right (fun h=>Bool.noConfusion h.1)))
    go_ret
    exact ⟨rfl,on_below hb0 hb1⟩
  · rw [hrb,Bool.true_and] at ho
    have HW2:=HW true hrb
    have HCK:=(rulesB_true rs).1 hrb
    obtain ⟨w0,hw0⟩ : ∃ w0,w.alloc (.cells #[.slice a n c,.int .i64 t,.int .i64 d] 24)=w0:=⟨_,rfl⟩
    have HN:=Lib.hid hn
    have HNN:=Lib.hid hN
    have HOK:=Lib.hid hok
    have HF:=Lib.hid hf
    have HZ : Hid (driftAt rs d (fun _=>[]) (-9223372036854775808) (l.drop 0)=o):=ho
    have HR:=Lib.hid (hrl.on hb0)
    have HCK:=Lib.hid HCK
    rw [hw0] at hb0 hA HW2 HR
    clear HW hrb ho hn hN hok hf hr hrl
    have hgw : w.heap.size<w0.heap.size:=hA.1
    have HB0:=Lib.hid hb0
    have hsa0:=HSA (-9223372036854775808) (by unfold in64;omega)
    obtain ⟨-,c0,-,c1,-,c2',-⟩:=hA.three
    clear hb0
    go_enter Tryz.func33,Tryz.ntmps33
    go_wp2_with (first|(go_at_call 76;(with_reducible refine HW2.out.mono ?_);intro e w1 hP;obtain ⟨hb1,h1⟩:=hP;obtain ⟨-,v,tag,W,T,G,rfl,hY⟩:=h1.resolve_left (fun h=>Bool.noConfusion h.1);have hA1:=hA.on hb1;obtain ⟨-,d0,-,d1,-,d2,-⟩:=hA1.three)|(go_at_call 77;(with_reducible refine (hsa0 _).out.mono ?_);rintro e w2 ⟨rfl,rfl⟩))
    have HTG : Hid (∀ j,j<rs.length→rcheck (rulAt rs j)=0∧(rulAt rs j).Fits):=fun j hj=>by
      rw [rulAt_lt hj]
      exact ⟨HCK.out _ (List.getElem_mem hj),HF.out _ (List.getElem_mem hj)⟩
    have hBw1 : w0.heap.size≤w1.heap.size:=hb1.size
    clear c0 c1 c2' d0 d1 d2 hsa0 HF HCK HW2
    go_loopw [7,25] (fun lm i wr=>∃ (k : Nat) (m : Int) (tag : Nat→Nat) (W : Nat→Nat→Prop) (f : Nat→List R),i = .int .i64 k∧k≤N∧lm = .int .i64 (add m d)∧in64 m∧Wys w0.heap.size wr tag W T G rs.length rs f v∧FewR f k∧Hid (driftAt rs d f m (l.drop k)=o)∧Below w0.heap.size w0 wr) (fun _ i _=>N - (intOf i).toNat)
    case atStart=>exact ⟨0,_,tag,W,_,rfl,Nat.zero_le _,rfl,by unfold in64;omega,hY,fun i=>⟨Nat.zero_le _,fun r hr=>absurd hr List.not_mem_nil⟩,HZ,hb1⟩
    case round =>
      clear HZ hY hA1 hb1 hBw1
      obtain ⟨k,m,tag,W,f,rfl,hk,rfl,hm,hY,hfew,HZ,hb⟩:=hrel
      obtain ⟨-,c0,-,c1,-,c2',-⟩:=(hA.below hb hgw).three
      have hwB:=hb.size
      by_cases hlt : k<N
      · have hk1 : k<l.length:=by rw [← HNN.out];exact hlt
        obtain ⟨b1,off,rfl,hbl,q0⟩:=(HR.out.on hb).at_ k hk1
        have hdr:=fun e he=>driftAt_drop rs d f m l k hk1 e he
        have heo:=HOK.out _ (List.getElem_mem hk1)
        generalize hev : l[k]=ev at *
        have HD:=Lib.hid ((hdr ev rfl).symm.trans HZ.out)
        clear hdr hev HZ
        cases ev with
        | mark x =>
          have t1:=ta_m_yes x
          simp only [evv] at q0
          have hx : in64 x:=heo
          have HX:=HSA x hx
          have HD2 : Hid (driftAt rs d f x (l.drop (k+1))=o):=HD.out
          have hbx : Below wr.heap.size wr (wr.alloc (.cells #[.int .i64 x] 125)):=(Below.refl _ _).alloc (Nat.le_refl _) _
          have e0:=cell_kept hbx c0
          have e1:=cell_kept hbx c1
          have e2:=cell_kept hbx c2'
          clear HD
          go_wp2_with (go_at_call 77;(with_reducible refine (HX _).out.mono ?_);rintro e w3 ⟨rfl,rfl⟩)
          go_roundw
          case rel=>exact ⟨k+1,x,tag,W,f,by go_num,hlt,rfl,hx,hY.on hbx,fun i=>⟨Nat.le_succ_of_le (hfew i).1,(hfew i).2⟩,HD2,hb.alloc hwB _⟩
          case measure=>simp [intOf] <;> omega
        | fault p e =>
          have t1:=ta_m_no2 (.agg #[.int .i64 p,.int .i64 e])
          have t2:=ta_e_no2 (.agg #[.int .i64 p,.int .i64 e])
          simp only [evv] at q0
          have HD2 : Hid (driftAt rs d f m (l.drop (k+1))=o):=HD.out
          clear HD
          go_wp2
          go_roundw
          case rel=>exact ⟨k+1,m,tag,W,f,by go_num,hlt,rfl,hm,hY,fun i=>⟨Nat.le_succ_of_le (hfew i).1,(hfew i).2⟩,HD2,hb⟩
          case measure=>simp [intOf] <;> omega
        | el late p kk tt x =>
          have t1:=ta_m_no1 (.agg #[.int .i64 p,.int .i64 kk,.int .i64 tt,.string (bstr x),.bool late])
          have t2:=ta_e_yes p kk tt (bstr x) late
          simp only [evv] at q0
          obtain ⟨hp1,hp2,hp3⟩:=heo
          have hbx : Below wr.heap.size wr (wr.alloc (.cells #[.int .i64 p,.int .i64 kk,.int .i64 tt,.string (bstr x),.bool late] 130)):=(Below.refl _ _).alloc (Nat.le_refl _) _
          have HD2 : Hid ((decide (0≤p∧p<rs.length) && (decide (gnow (rulAt rs p.toNat) (f p.toNat)≤add m d) && driftAt rs d (put f p.toNat (f p.toNat++[(kk,tt,x)])) m (l.drop (k+1))))=o):=HD.out
          obtain ⟨av,cv,hv⟩:=hY.row.shape
          subst hv
          clear HD
          by_cases h0 : p<0
          · obtain rfl : o=false:=by rw [← HD2.out,decide_eq_false (by omega),Bool.false_and]
            clear HD2
            go_wp2
            go_ret
            exact ⟨rfl,on_below HB0.out (hb.alloc hwB _)⟩
          by_cases h1 : (p : Int)<(rs.length : Nat)
          · obtain ⟨i,rfl⟩ : ∃ i : Nat,p=(i : Int):=⟨p.toNat,by omega⟩
            rw [Int.toNat_natCast,decide_eq_true ⟨by omega,h1⟩,Bool.true_and] at HD2
            have hin : i<rs.length:=by omega
            have hY1:=hY.on hbx
            obtain ⟨bw,ow,cw,hv,hbw,g0⟩:=hY1.at_ i hin
            cases hv
            have hGi:=hY1.gen i hin
            have hmN:=hGi.now
            have hNw:=Lib.hid (gn_now _ _ _ _ _ _ hGi)
            have hfi:=hfew i
            have HP : Hid (FewR (put f i (f i++[(kk,tt,x)])) (k+1)):=hfew.put i (kk,tt,x) ⟨hp2,hp3⟩
            have HY:=Lib.hid hY1
            by_cases h2 : gnow (rulAt rs i) (f i)≤add m d
            · rw [decide_eq_true h2,Bool.true_and] at HD2
              have hGd:=(hY1.on ((Below.refl _ (wr.alloc (.cells #[.int .i64 (i : Int),.int .i64 kk,.int .i64 tt,.string (bstr x),.bool late] 130))).drew)).gen i hin
              have hSN:=Lib.hid (gn_seen _ _ _ _ _ (kk,tt,x) _ hGd (HTG.out i hin).1 (HTG.out i hin).2 hfi.2 ⟨hp2,hp3⟩ (by omega))
              have hmS:=hGd.seen
              have hmE:=hGd.enters
              have hmA:=hGd.ahead
              simp only at hSN
              have HAF : Hid (∀ w6,GPost (W i) (T i) (G i) (rulAt rs i) (f i++[(kk,tt,x)]) (wr.alloc (.cells #[.int .i64 (i : Int),.int .i64 kk,.int .i64 tt,.string (bstr x),.bool late] 130)).drew w6→At w6 wr.heap.size [.int .i64 (i : Int),.int .i64 kk,.int .i64 tt,.string (bstr x),.bool late]∧w6.cell? ⟨bw,ow+i,none⟩=some (.iface (T i) (.pointer (some ⟨G i,0,none⟩)))):=fun w6 h6=>by
                obtain ⟨S',p1,p2,p3⟩:=h6
                refine ⟨(At.alloc wr _ _).drew.upd p2 (fun hs=>?_),(p2.cell (p:=⟨bw,ow+i,none⟩) hbw (fun hs=>?_)).trans g0⟩
                · have h9 : wr.heap.size<wr.heap.size:=(hY.gen i hin).lt _ hs
                  exact Nat.lt_irrefl _ h9
                · have a1 : tag bw=i+1:=hY.tg i hin bw hs
                  have a2 : tag bw=0:=hY.rt bw rfl
                  omega
              have HAE:=Lib.hid (At.alloc wr [.int .i64 (i : Int),.int .i64 kk,.int .i64 tt,.string (bstr x),.bool late] 130)
              clear hY hY1 hGi hGd hfew hfi
              generalize gnow (rulAt rs i) (f i)=z at *
              go_wp2_with (go_at_call 120;(with_reducible refine hNw.out.mono ?_);rintro e w3 ⟨rfl,rfl⟩)
              obtain ⟨-,s0,-,s1,-,s2,-,s3,-,-,-⟩:=HAE.out.drew.five
              have s4 : (wr.alloc (.cells #[.int .i64 (i : Int),.int .i64 kk,.int .i64 tt,.string (bstr x),.bool late] 130)).drew.cell? ⟨bw,ow+i,none⟩=some (.iface (T i) (.pointer (some ⟨G i,0,none⟩))):=g0
              go_region_held3 (fun wx=>wx.cell? ⟨wr.heap.size,0,none⟩=some (.int .i64 (i : Int))∧wx.cell? ⟨wr.heap.size,1,none⟩=some (.int .i64 kk)∧wx.cell? ⟨wr.heap.size,2,none⟩=some (.int .i64 tt)∧wx.cell? ⟨wr.heap.size,3,none⟩=some (.string (bstr x))∧wx.cell? ⟨bw,ow+i,none⟩=some (.iface (T i) (.pointer (some ⟨G i,0,none⟩)))) (first|(with_reducible exact ⟨s0,s1,s2,s3,s4⟩)|(with_reducible exact ⟨v0,v1,v2,v3,v4⟩)|fail) (first|((with_reducible refine hSN.out.mono ?_);intro e w6 h6;obtain ⟨rfl,hG6⟩:=h6;obtain ⟨hA6,v4⟩:=HAF.out w6 hG6;obtain ⟨-,v0,-,v1,-,v2,-,v3,-,-,-⟩:=hA6.five)|fail)
              obtain ⟨⟨tag6,W6,hY6⟩,hb6⟩:=(HY.out.on ((Below.refl _ _).drew)).seen i hin _ hG6 (Nat.le_trans hwB hbx.size)
              go_wp2
              go_roundw
              case rel=>exact ⟨k+1,m,tag6,W6,_,by go_num,hlt,rfl,hm,hY6,HP.out,HD2,(hb.alloc hwB _).trans ((Below.refl _ _).drew.trans hb6)⟩
              case measure=>simp [intOf] <;> omega
            · obtain rfl : o=false:=by rw [← HD2.out,decide_eq_false h2,Bool.false_and]
              have h3 : add m d<gnow (rulAt rs i) (f i):=by omega
              clear hY hY1 hGi hfew hfi HD2 h2
              generalize gnow (rulAt rs i) (f i)=z at *
              go_wp2_with (go_at_call 120;(with_reducible refine hNw.out.mono ?_);rintro e w3 ⟨rfl,rfl⟩)
              go_ret
              exact ⟨rfl,on_below HB0.out (hb.alloc hwB _)⟩
          · obtain rfl : o=false:=by rw [← HD2.out,decide_eq_false (by omega),Bool.false_and]
            clear HD2
            go_wp2
            go_ret
            exact ⟨rfl,on_below HB0.out (hb.alloc hwB _)⟩
      · obtain rfl : k=N:=by omega
        have hz1:=HZ.out
        rw [List.drop_of_length_le (by rw [← HNN.out];exact Nat.le_refl _)] at hz1
        obtain rfl : o=true:=hz1.symm
        go_wp2
        go_ret
        exact ⟨rfl,on_below HB0.out hb⟩
end Go.Proofs.YtmimfkhkilijcaaGreatDoor
