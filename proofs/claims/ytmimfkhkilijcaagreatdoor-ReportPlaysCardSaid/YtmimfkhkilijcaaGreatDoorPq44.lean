/- RepLine; KJuP; KJuC; RepPlay: what is reached of them. -/
import Derived.Test.YtmimfkhkilijcaaGreatDoorPq35
import Derived.Test.YtmimfkhkilijcaaGreatDoorPq06
import Derived.Test.YtmimfkhkilijcaaGreatDoorPq29
import Derived.Test.YtmimfkhkilijcaaGreatDoorPq10
import Derived.Test.YtmimfkhkilijcaaGreatDoorPq01
import Derived.Maps.OwnOps
import Derived.Maps.Views
import Derived.Test.YtmimfkhkilijcaaGreatDoorPq12
import Derived.Deep.RegionHeld3
import Derived.BigQuiet
import Derived.BigRegion
import Derived.Test.YtmimfkhkilijcaaGreatDoorPq43
import Derived.Test.YtmimfkhkilijcaaGreatDoorPq32
import Derived.Test.YtmimfkhkilijcaaGreatDoorPq42
import Derived.Test.YtmimfkhkilijcaaGreatDoorPq33
import Derived.Test.YtmimfkhkilijcaaGreatDoorPq39
set_option linter.unusedVariables false
set_option linter.unusedSimpArgs false
set_option maxRecDepth 100000
set_option maxHeartbeats 8000000
namespace Go.Proofs.YtmimfkhkilijcaaGreatDoor
open Go.ChangeShapes Go.WideShapes Go.ChangeAt Go.RowKit
open PWord
open Go.Lib (itoa)
def nsT (ns : List Int) : List UInt8:=(ns.map fun n=>32::itoa n).flatten
theorem nsT_snoc (ns : List Int) (n : Int) : nsT (ns++[n])=nsT ns++(32::itoa n):=by simp [nsT]
theorem glue_nsT : ∀ (x : List UInt8) (ns : List Int),glue 32 (x::ns.map itoa)=x++nsT ns
  | x,[]=>by simp [glue,nsT]
  | x,n::ns=>by
    rw [List.map_cons,glue_cons,glue_nsT (itoa n) ns]
    simp [nsT]
theorem lineOf_nsT (name : List UInt8) (ns : List Int) : lineOf name ns=name++nsT ns:=glue_nsT name ns
theorem nsT_len : ∀ (ns : List Int),(∀ n∈ns,in64 n)→(nsT ns).length≤ns.length*22
  | [],_=>by simp [nsT]
  | n::ns,h=>by
    have h1:=nsT_len ns (fun m hm=>h m (by simp [hm]))
    have h2:=itoa_len (h n (by simp))
    have : nsT (n::ns)=(32::itoa n)++nsT ns:=rfl
    rw [this,List.length_append,List.length_cons,List.length_cons,Nat.succ_mul]
    omega
theorem re_line (name : List UInt8) (ns : List Int) (a : Option Addr) (n c : Nat) (w : World) (he : EnvW w) (hr : RowI w .i64 a ns) (hn : n=ns.length) (hl : n≤10) (hna : name.length≤21) :
    Calls Tryz.prog 47 #[.string (bstr name),.slice a n c] w fun e w'=>e = .returned (.string (bstr (lineOf name ns++[10])))∧Below w.heap.size w w':=by
  have hb64 : ∀ x∈ns,in64 x:=fun x hx=>bounds_i64 (hr.wf x hx)
  have HLL : Hid (∀ k,(nsT (ns.take k)).length≤220):=fun k=>by
    have h1:=nsT_len (ns.take k) (fun m hm=>hb64 m (List.mem_of_mem_take hm))
    have h2:=List.length_take_le k ns
    have h3 : (ns.take k).length≤ns.length:=by rw [List.length_take];omega
    have : (ns.take k).length*22≤10*22:=Nat.mul_le_mul_right 22 (by omega)
    omega
  have HB:=Lib.hid hb64
  have HN:=Lib.hid hn
  have hz:=b_zero w
  have hb0 : Below w.heap.size w (w.alloc (.cells #[.pointer none,.slice none 0 0] 81)):=(Below.refl _ _).alloc (Nat.le_refl _) _
  have HW0:=Lib.hid (fun w' (h : Bld w.heap.size w.heap.size [] w') (hB : w.heap.size≤w'.heap.size)=>b_write w.heap.size w.heap.size [] (bstr name) w' h (by rw [tx_size];simp only [List.length_nil];omega) hB)
  have HLN:=Lib.hid (lineOf_nsT name ns)
  clear hb64 hn
  go_enter Tryz.func47,Tryz.ntmps47
  go_wp2_with (go_at_call 36;(with_reducible refine (HW0.out _ hz hb0.size).mono ?_);rintro e w1 ⟨rfl,hon1⟩;have hbl1 : Bld w.heap.size w.heap.size (name++nsT (ns.take 0)) w1:=(by simpa [nsT] using hon1.1);have hbw1:=hb0.trans hon1.2.1)
  clear hz HW0
  go_loopw [12] (fun i wr=>∃ k : Nat,i = .int .i64 k∧k≤n∧Bld w.heap.size w.heap.size (name++nsT (ns.take k)) wr∧Below w.heap.size w wr) (fun i _=>n - (intOf i).toNat)
  case atStart=>exact ⟨0,rfl,Nat.zero_le _,hbl1,hbw1⟩
  case round =>
    clear hb0 hon1 hbl1 hbw1
    obtain ⟨k,rfl,hk,hbl,hb⟩:=hrel
    have hwB:=hb.size
    have hln:=HLL.out k
    by_cases hlt : k<n
    · have hk1 : k<ns.length:=by rw [← HN.out];exact hlt
      have hri:=hr.below hb
      obtain ⟨b,off,rfl,hbb,q0⟩:=hri.at_ k hk1
      have HT : Hid (name++nsT (ns.take (k+1))=name++nsT (ns.take k)++(32::itoa ns[k])):=by
        refine Lib.hid ?_
        rw [List.take_succ_eq_append_getElem hk1,nsT_snoc,List.append_assoc]
      have hx:=HB.out _ (List.getElem_mem hk1)
      have hil:=itoa_len hx
      have HI:=Lib.hid (li_itoa _ hx wr (he.on hb))
      clear hri
      generalize ns[k]=x at *
      clear hk1 hx
      have hcat:=fun w=>tx_run w [32] (itoa x) (by simp only [List.length_cons,List.length_nil];omega)
      obtain ⟨u,hu⟩ : ∃ u,bstr ([32]++itoa x)=u:=⟨_,rfl⟩
      have hwr:=fun w' (h : Bld w.heap.size w.heap.size (name++nsT (ns.take k)) w') (hB : w.heap.size≤w'.heap.size)=>b_write w.heap.size w.heap.size (name++nsT (ns.take k)) (bstr ([32]++itoa x)) w' h (by rw [tx_size,List.length_append];simp only [List.length_append,List.length_cons,List.length_nil];omega) hB
      rw [show (bstr ([32]++itoa x)).data.toList=32::itoa x from rfl,← HT.out] at hwr
      have HW:=Lib.hid hwr
      rw [hu] at hcat HW
      clear hwr hu HT
      generalize itoa x=ix at *
      go_wp2_with (first|(go_at_call 84;(with_reducible refine HI.out.mono ?_);rintro e w2 ⟨rfl,hb2⟩;have hbl2:=bld_on hbl hb2;have hbw2:=on_below hb hb2)|(go_at_call 36;(with_reducible refine (HW.out _ hbl2 hbw2.size).mono ?_);rintro e w3 ⟨rfl,hon3⟩))
      go_roundw
      case rel=>exact ⟨k+1,by go_num,hlt,hon3.1,hbw2.trans hon3.2.1⟩
      case measure=>simp [intOf];omega
    · obtain rfl : k=n:=by omega
      rw [List.take_of_length_le (by rw [← HN.out];exact Nat.le_refl _)] at hbl hln
      have HW:=Lib.hid (b_write w.heap.size w.heap.size (name++nsT ns) ⟨#[10]⟩ wr hbl (by rw [List.length_append];show _+1≤_;omega) hwB)
      rw [show (⟨#[10]⟩ : ByteArray).data.toList=[10] from rfl] at HW
      have HT:=fun w' h hB=>Lib.hid (b_text w.heap.size w.heap.size (name++nsT ns++[10]) w' h hB)
      go_wp2_with (first|(go_at_call 36;(with_reducible refine HW.out.mono ?_);rintro e w3 ⟨rfl,hon3⟩;have hb3:=hb.trans hon3.2.1;have hB3:=hon3.1)|(go_at_call 40;(with_reducible refine (HT _ hB3 hb3.size).out.mono ?_);rintro e w5 ⟨rfl,hb5⟩))
      go_ret
      exact ⟨by rw [HLN.out,List.append_assoc];rfl,hb3.trans hb5⟩
end Go.Proofs.YtmimfkhkilijcaaGreatDoor
namespace Go.Proofs.YtmimfkhkilijcaaGreatDoor
open Go.ChangeShapes Go.WideShapes Go.ChangeAt Go.RowKit
open PHist PRing PSat PClamp PBound PFrame PSign PTree PEv
def markOf (m : Int) : Ev→Int
  | .mark n=>n
  | .el _ _ _ _ _=>m
  | .fault _ _=>m
def risesAt : Int→List Ev→Bool
  | _,[]=>true
  | m,.mark n::l=>decide (m<n) && risesAt n l
  | m,.el _ _ _ _ _::l=>risesAt m l
  | m,.fault _ _::l=>risesAt m l
def Ev.lateB : Ev→Bool
  | .el late _ _ _ _=>late
  | .mark _=>false
  | .fault _ _=>false
def lates (l : List Ev) : Nat:=(l.filter Ev.lateB).length
theorem lates_append (a b : List Ev) : lates (a++b)=lates a+lates b:=by unfold lates;rw [List.filter_append,List.length_append]
theorem lates_le (l : List Ev) : lates l≤l.length:=List.length_filter_le _ _
structure Crs where
  left : Nat→List R
  over : Int→Bool
def putI (f : Int→Bool) (i : Int) : Int→Bool:=fun j=>if j=i then true else f j
def Crs.goesOn (c : Crs) (n : Nat) (i : Int) : Bool:=decide (0≤i∧i<n) && !c.over i
def Crs.mayE (c : Crs) (n : Nat) (p : Int) (r : R) : Bool:=c.goesOn n p && decide ((c.left p.toNat).head? = some r)
def Crs.mayF (c : Crs) (n : Nat) (er : Nat→Nat) (p e : Int) : Bool:=c.goesOn n p && decide (er p.toNat≠0∧(er p.toNat : Int)=e∧c.left p.toNat=[])
def Crs.el (c : Crs) (p : Int) : Crs:=⟨put c.left p.toNat (c.left p.toNat).tail,c.over⟩
def Crs.fl (c : Crs) (p : Int) : Crs:=⟨c.left,putI c.over p⟩
def Crs.one (n : Nat) (er : Nat→Nat) (c : Crs) : Ev→Option Crs
  | .mark _=>some c
  | .el _ p k t x=>if c.mayE n p (k,t,x) then some (c.el p) else none
  | .fault p e=>if c.mayF n er p e then some (c.fl p) else none
def Crs.all (n : Nat) (er : Nat→Nat) : Crs→List Ev→Option Crs
  | c,[]=>some c
  | c,e::l=>match c.one n er e with
    | none=>none
    | some c'=>c'.all n er l
theorem all_cons (n : Nat) (er : Nat→Nat) (c : Crs) (e : Ev) (l : List Ev) : c.all n er (e::l)=(c.one n er e).bind fun c'=>c'.all n er l:=by
  show (match c.one n er e with|none=>none|some c'=>c'.all n er l)=_
  cases c.one n er e <;> rfl
theorem all_append (n : Nat) (er : Nat→Nat) : ∀ (a b : List Ev) (c : Crs),c.all n er (a++b)=(c.all n er a).bind fun c'=>c'.all n er b
  | [],b,c=>rfl
  | e::a,b,c=>by
    rw [List.cons_append,all_cons,all_cons]
    cases h : c.one n er e with
    | none=>rfl
    | some c'=>exact all_append n er a b c'
def errs (ps : List Pt) (i : Nat) : Nat:=(pat ps i).err
theorem goes_faults (ps : List Pt) (hraw : ∀ i,i<ps.length→(pat ps i).read=0∧(pat ps i).is=0) {er : Nat→Nat} (he : ∀ i,i<ps.length→er i=errs ps i) (c : Crs) (hl : ∀ i,i<ps.length→c.left i=(pat ps i).recs) (ho : ∀ i,c.over i=false) :
    ∀ k,k≤ps.length→∃ c',c.all ps.length er (faultsTo ps k)=some c'∧c'.left=c.left∧(∀ i,i<ps.length→c'.over (i : Int)=(decide (i<k) && decide ((settled (pat ps i)).is=3)))
  | 0,_=>⟨c,rfl,rfl,fun i hi=>by rw [ho,decide_eq_false (by omega)];rfl⟩
  | k + 1, hk => by
    obtain ⟨c1,h1,h2,h3⟩:=goes_faults ps hraw he c hl ho k (by omega)
    have hkl : k<ps.length:=by omega
    obtain ⟨r0,r1⟩:=hraw k hkl
    show ∃ c',c.all ps.length er (faultsTo ps k++faults (pat ps k) k)=some c'∧_
    rw [all_append,h1]
    show ∃ c',c1.all ps.length er (faults (pat ps k) k)=some c'∧_
    have hstep : ∀ (b : Bool),decide ((settled (pat ps k)).is=3)=b→∀ i,i<ps.length→i≠k→(decide (i<k) && decide ((settled (pat ps i)).is=3))=(decide (i<k+1) && decide ((settled (pat ps i)).is=3)):=by
      intro b hb i hi e
      have he2 : decide (i<k)=decide (i<k+1):=decide_eq_decide.2 (by omega)
      rw [he2]
    by_cases hf : faults (pat ps k) k=[]
    · rw [hf]
      refine ⟨c1,rfl,h2,fun i hi=>?_⟩
      rw [h3 i hi]
      by_cases e : i=k
      · subst e
        have hs : ¬ (settled (pat ps i)).is=3:=by
          unfold faults at hf
          unfold settled
          by_cases hr : (pat ps i).read<(pat ps i).recs.length
          · rw [if_pos hr];omega
          · rw [if_neg hr] at hf ⊢
            by_cases hz : (pat ps i).err=0
            · rw [if_pos hz]
              show ¬ (2 : Int)=3;omega
            · rw [if_neg hz] at hf;cases hf
        rw [decide_eq_false hs,Bool.and_false,Bool.and_false]
      · exact hstep _ rfl i hi e
    · have hr : ¬ (pat ps k).read<(pat ps k).recs.length:=fun hr=>hf (by unfold faults;rw [if_pos hr])
      have hz : ¬ (pat ps k).err=0:=fun hz=>hf (by unfold faults;rw [if_neg hr,if_pos hz])
      have hfe : faults (pat ps k) k=[.fault k (pat ps k).err]:=by unfold faults;rw [if_neg hr,if_neg hz]
      have hs : (settled (pat ps k)).is=3:=by unfold settled;rw [if_neg hr,if_neg hz]
      have hlk : c1.left k=[]:=by
        rw [h2,hl k hkl]
        exact List.eq_nil_of_length_eq_zero (by omega)
      have hok : c1.over (k : Int)=false:=by rw [h3 k hkl,decide_eq_false (by omega)];rfl
      have hone : c1.one ps.length er (.fault k (pat ps k).err)=some (c1.fl k):=by
        show (if _ then _ else _)=_
        rw [if_pos]
        unfold Crs.mayF Crs.goesOn
        rw [hok,decide_eq_true ⟨by omega,by omega⟩,Int.toNat_natCast,hlk,he k hkl]
        unfold errs
        simp [hz]
      refine ⟨c1.fl k,by rw [hfe,all_cons,hone];rfl,h2,fun i hi=>?_⟩
      show (if (i : Int)=k then true else c1.over i)=_
      by_cases e : i=k
      · subst e
        rw [if_pos rfl,hs,decide_eq_true (show i<i+1 by omega)];rfl
      · rw [if_neg (by omega),h3 i hi]
        exact hstep _ rfl i hi e
def Fine (e : Ev) : Prop:=Ev.ok e∧(etext e).length≤400
theorem fine_marks {now : Int} {ps : List Pt} (h : ∀ p∈ps,p.Ok) : ∀ e∈marksE now ps,Fine e:=by
  intro e he
  unfold marksE at he
  split at he
  · cases he
  · rw [List.mem_singleton.1 he]
    exact ⟨least_in h,Nat.zero_le _⟩
theorem fine_faults {p : Pt} (h : p.Ok) (i : Nat) (hi : i<1000) : ∀ e∈faults p i,Fine e:=by
  intro e he
  unfold faults at he
  split at he
  · cases he
  · split at he
    · cases he
    · rw [List.mem_singleton.1 he]
      have:=h.er
      exact ⟨⟨by unfold in64;omega,by unfold in64;omega⟩,Nat.zero_le _⟩
theorem fine_do {s : St} (h : s.Ok) (x : Bool×Int) : ∀ e∈s.doE x,Fine e:=by
  have hd:=h.do x
  unfold St.doE
  unfold St.doS at hd
  split
  · split
    · intro e he;cases he
    · next hx hn =>
      rw [if_pos hx,if_neg hn] at hd
      exact fine_marks hd.pt
  · next hx =>
    rw [if_neg hx] at hd
    split
    · intro e he;cases he
    · next hr =>
      rw [if_neg hr] at hd
      rw [Bool.not_eq_true] at hr
      have hi:=(refused_not hr).2.1
      have hrd:=refused_read h hr
      have hp:=h.pt _ (pat_mem hi)
      have h8:=h.n
      have hmem : recAt (pat s.ps x.2.toNat)∈(pat s.ps x.2.toNat).recs:=by
        unfold recAt
        rw [List.getD_eq_getElem?_getD,List.getElem?_eq_getElem hrd]
        exact List.getElem_mem hrd
      intro e he
      unfold St.pollE at he
      rcases List.mem_cons.1 he with rfl|he
      · have:=okR_in (hp.okr _ hmem)
        refine ⟨⟨by unfold in64;omega,this.1,this.2⟩,?_⟩
        exact hp.short _ hmem
      · rcases List.mem_append.1 he with he|he
        · exact fine_faults (hp.gone (add_in _ _) hrd) _ (by omega) e he
        · exact fine_marks hd.pt e he
theorem fine_run : ∀ (l : List (Bool×Int)) {s : St} (h : s.Ok),∀ e∈s.runE l,Fine e
  | [],s,h,e,he=>by cases he
  | x::l,s,h,e,he=>by
    rcases List.mem_append.1 he with he|he
    · exact fine_do h x e he
    · exact fine_run l (h.do x) e he
theorem fine_faultsTo {ps : List Pt} (h : ∀ p∈ps,p.Ok) : ∀ k,k≤ps.length→k≤1000→∀ e∈faultsTo ps k,Fine e
  | 0,_,_,e,he=>by cases he
  | k+1,hk,h1,e,he=>by
    rcases List.mem_append.1 he with he|he
    · exact fine_faultsTo h k (by omega) (by omega) e he
    · exact fine_faults (h _ (pat_mem (by omega))) k (by omega) e he
theorem fine_new {t : Int} {rs : List Rul} {ls : List (List UInt8)} (hn : ls.length=rs.length) (h8 : rs.length≤8) (hc : ∀ r∈rs,rcheck r=0∧r.Fits) (hl : ∀ l∈ls,l.length≤400) (ht : 1≤t∧t≤9223372036854775807) : ∀ e∈St.newE t rs ls,Fine e:=by
  have hr:=raws_ok hc hl ht
  intro e he
  unfold St.newE at he
  rcases List.mem_append.1 he with he|he
  · exact fine_faultsTo hr rs.length (by rw [raws_len hn];omega) (by omega) e he
  · refine fine_marks (fun p hp=>?_) e he
    obtain ⟨q,hq,rfl⟩:=List.mem_map.1 hp
    exact (hr q hq).settled
open PVar PCrc
def r5 : R:=(1,5,[])
def b5 : List UInt8:=enc 1 5 []
end Go.Proofs.YtmimfkhkilijcaaGreatDoor
namespace Go.Proofs.YtmimfkhkilijcaaGreatDoor
open Go.ChangeShapes Go.WideShapes Go.ChangeAt Go.RowKit
open PHist PRing PSat PClamp PBound PFrame PSign PTree PEv
structure Pp where
  a : Option Addr
  c : Nat
  l : List R
  e : Nat
section
variable {B : Nat} {w w' : World} {g mb : Nat} {v : Value} {ps : List Pp} {ov : Int→Bool} {m : Nat}
end
theorem risesAt_drop (m : Int) (l : List Ev) (k : Nat) (h : k<l.length) (e : Ev) (he : l[k]=e) : risesAt m (l.drop k)=risesAt m (e::l.drop (k+1)):=by
  rw [List.drop_eq_getElem_cons h,he]
theorem ju_rises (a : Option Addr) (n c : Nat) (l : List Ev) (w : World) (hr : RowE w a l) (hn : n=l.length) (hl : n≤1000000) (z : Bool) (hz : risesAt (-9223372036854775808) l=z) :
    Calls Tryz.prog 30 #[.slice a n c] w fun e w'=>e = .returned (.bool z)∧Below w.heap.size w w':=by
  have HN:=Lib.hid hn
  have HZ : Hid (risesAt (-9223372036854775808) (l.drop 0)=z):=hz
  clear hn hz
  go_enter Tryz.func30,Tryz.ntmps30
  go_wp2
  go_loopw [3,10] (fun v i wr=>∃ (k : Nat) (m : Int),i = .int .i64 k∧k≤n∧v = .int .i64 m∧Hid (risesAt m (l.drop k)=z)∧Below w.heap.size w wr) (fun _ i _=>n - (intOf i).toNat)
  case atStart=>exact ⟨0,_,rfl,Nat.zero_le _,rfl,HZ,Below.refl _ _⟩
  case round =>
    clear HZ
    obtain ⟨k,m,rfl,hk,rfl,HZ,hb⟩:=hrel
    by_cases hlt : k<n
    · have hk1 : k<l.length:=by rw [← HN.out];exact hlt
      obtain ⟨b,off,rfl,hbl,q0⟩:=(hr.on hb).at_ k hk1
      have hd:=fun e he=>risesAt_drop m l k hk1 e he
      generalize hev : l[k]=ev at *
      have hwB:=hb.size
      have HD:=Lib.hid ((hd ev rfl).symm.trans HZ.out)
      clear hd hev HZ
      cases ev with
      | mark x =>
        have t1:=ta_m_yes x
        simp only [evv] at q0
        by_cases hx : x≤m
        · have hz0 : z=false:=by
            have h : (decide (m<x) && risesAt x (l.drop (k+1)))=z:=HD.out
            rw [decide_eq_false (by omega)] at h
            exact h.symm
          subst hz0
          go_wp2
          go_ret
          exact ⟨rfl,hb.alloc hwB _⟩
        · have HD2 : Hid (risesAt x (l.drop (k+1))=z):=by
            have h : (decide (m<x) && risesAt x (l.drop (k+1)))=z:=HD.out
            rw [decide_eq_true (by omega),Bool.true_and] at h
            exact h
          clear HD
          go_wp2
          go_roundw
          case rel=>exact ⟨k+1,x,by go_num,hlt,rfl,HD2,hb.alloc hwB _⟩
          case measure=>simp [intOf] <;> omega
      | fault p e =>
        have t1:=ta_m_no2 (.agg #[.int .i64 p,.int .i64 e])
        simp only [evv] at q0
        have HD2 : Hid (risesAt m (l.drop (k+1))=z):=HD.out
        clear HD
        go_wp2
        go_roundw
        case rel=>exact ⟨k+1,m,by go_num,hlt,rfl,HD2,hb.alloc hwB _⟩
        case measure=>simp [intOf] <;> omega
      | el late p kk t x =>
        have t1:=ta_m_no1 (.agg #[.int .i64 p,.int .i64 kk,.int .i64 t,.string (bstr x),.bool late])
        simp only [evv] at q0
        have HD2 : Hid (risesAt m (l.drop (k+1))=z):=HD.out
        clear HD
        go_wp2
        go_roundw
        case rel=>exact ⟨k+1,m,by go_num,hlt,rfl,HD2,hb.alloc hwB _⟩
        case measure=>simp [intOf] <;> omega
    · obtain rfl : k=n:=by omega
      have hz1:=HZ.out
      rw [List.drop_of_length_le (by rw [← HN.out];exact Nat.le_refl _)] at hz1
      obtain rfl : z=true:=hz1.symm
      go_wp2
      go_ret
      exact ⟨rfl,hb⟩
theorem lates_take (l : List Ev) (k : Nat) (h : k<l.length) : lates (l.take (k+1))=lates (l.take k)+(if Ev.lateB l[k] then 1 else 0):=by
  rw [List.take_succ_eq_append_getElem h,lates_append]
  congr 1
  unfold lates
  generalize l[k]=v
  cases he : Ev.lateB v <;> simp [he]
theorem ju_lates (a : Option Addr) (n c : Nat) (l : List Ev) (w : World) (hr : RowE w a l) (hn : n=l.length) (hl : n≤1000000) (z : Nat) (hz : lates l=z) :
    Calls Tryz.prog 35 #[.slice a n c] w fun e w'=>e = .returned (.int .i64 (z : Int))∧Below w.heap.size w w':=by
  have HN:=Lib.hid hn
  have HZ:=Lib.hid hz
  clear hn hz
  go_enter Tryz.func35,Tryz.ntmps35
  go_wp2
  go_loopw [3,10] (fun v i wr=>∃ (k m : Nat),i = .int .i64 k∧k≤n∧v = .int .i64 m∧Hid (lates (l.take k)=m)∧Below w.heap.size w wr) (fun _ i _=>n - (intOf i).toNat)
  case atStart=>exact ⟨0,0,rfl,Nat.zero_le _,rfl,rfl,Below.refl _ _⟩
  case round =>
    obtain ⟨k,m,rfl,hk,rfl,HM,hb⟩:=hrel
    by_cases hlt : k<n
    · have hk1 : k<l.length:=by rw [← HN.out];exact hlt
      obtain ⟨b,off,rfl,hbl,q0⟩:=(hr.on hb).at_ k hk1
      have hd:=lates_take l k hk1
      have hmk : m≤k:=by have:=lates_le (l.take k);rw [HM.out,List.length_take] at this;omega
      rw [HM.out] at hd
      generalize hev : l[k]=ev at *
      have hwB:=hb.size
      clear HM hev
      cases ev with
      | mark x =>
        have t1:=ta_e_no1 (.agg #[.int .i64 x])
        simp only [evv] at q0
        have HD2 : Hid (lates (l.take (k+1))=m):=hd
        clear hd
        go_wp2
        go_roundw
        case rel=>exact ⟨k+1,m,by go_num,hlt,rfl,HD2,hb.alloc hwB _⟩
        case measure=>simp [intOf] <;> omega
      | fault p e =>
        have t1:=ta_e_no2 (.agg #[.int .i64 p,.int .i64 e])
        simp only [evv] at q0
        have HD2 : Hid (lates (l.take (k+1))=m):=hd
        clear hd
        go_wp2
        go_roundw
        case rel=>exact ⟨k+1,m,by go_num,hlt,rfl,HD2,hb.alloc hwB _⟩
        case measure=>simp [intOf] <;> omega
      | el late p kk t x =>
        have t1:=ta_e_yes p kk t (bstr x) late
        simp only [evv] at q0
        cases late
        · have HD2 : Hid (lates (l.take (k+1))=m):=hd
          clear hd
          go_wp2
          go_roundw
          case rel=>exact ⟨k+1,m,by go_num,hlt,rfl,HD2,hb.alloc hwB _⟩
          case measure=>simp [intOf] <;> omega
        · have HD2 : Hid (lates (l.take (k+1))=m+1):=hd
          clear hd
          go_wp2
          go_roundw
          case rel=>exact ⟨k+1,m+1,by go_num,hlt,by go_num,HD2,hb.alloc hwB _⟩
          case measure=>simp [intOf] <;> omega
    · obtain rfl : k=n:=by omega
      have hz1:=HM.out
      rw [List.take_of_length_le (by rw [← HN.out];exact Nat.le_refl _),HZ.out] at hz1
      subst hz1
      clear HM HZ
      go_wp2
      go_ret
      exact ⟨rfl,hb⟩
open Go.Lib (itoa)
open PVar PCrc
def lineT (name : List UInt8) (ns : List Int) : List UInt8:=PWord.lineOf name ns++[10]
abbrev tPart : List UInt8:=[112,97,114,116]
abbrev tEnd : List UInt8:=[101,110,100]
abbrev tError : List UInt8:=[101,114,114,111,114]
def partsT (s : St) : Nat→List UInt8
  | 0=>[]
  | k+1=>partsT s k++lineT tPart [(k : Int),(pat s.ps k).is,((pat s.ps k).read : Int),(pat s.ps k).mark]
def outT (s : St) (evs : List Ev) (n : Nat) : List UInt8:=etexts evs++partsT s n++lineT tEnd [s.now,s.clock,(lates evs : Int)]
def playT (t d : Int) (rs : List Rul) (ls : List (List UInt8)) (cs : List (Bool×Int)) : List UInt8 :=
  if nerr rs t d ls.length=0 then outT ((St.new t d rs ls).run cs) (St.newE t rs ls++(St.new t d rs ls).runE cs) rs.length else lineT tError [nerr rs t d ls.length]
theorem lineT_len {name : List UInt8} {ns : List Int} (hn : name.length≤21) (hb : ∀ n∈ns,in64 n) : (lineT name ns).length≤(ns.length+1)*22+1:=by
  unfold lineT
  have:=PWord.lineOf_len name ns hn hb
  rw [List.length_append,List.length_singleton]
  omega
theorem etexts_max : ∀ (l : List Ev),(∀ v∈l,Fine v)→(etexts l).length≤l.length*4101
  | [],_=>by simp [etexts]
  | v::l,h=>by
    have h1:=etexts_max l (fun x hx=>h x (by simp [hx]))
    obtain ⟨h2,h3⟩:=h v (by simp)
    have h4:=eline_len v h2
    have : etexts (v::l)=(eline v++[10])++etexts l:=rfl
    rw [this]
    simp only [List.length_append,List.length_cons,List.length_nil]
    omega
theorem line1 (x0 : Int) (h0 : in64 x0) (w : World) (he : EnvW w) :
    Calls Tryz.prog 47 #[.string ⟨#[101,114,114,111,114]⟩,.slice (some ⟨w.heap.size,0,none⟩) 1 1] (w.alloc (.cells #[.int .i64 x0] 3)) fun e w'=>e = .returned (.string (bstr (lineT tError [x0])))∧Below w.heap.size w w':=by
  have hb : Below w.heap.size w (w.alloc (.cells (iv [x0]).toArray 3)):=(Below.refl _ _).alloc (Nat.le_refl _) _
  have hr:=rowi_made w [x0] 3 (by unfold maxLen;simp) (fun x hx=>by rw [List.mem_singleton.1 hx];exact h0)
  refine (re_line tError [x0] (some ⟨w.heap.size,0,none⟩) 1 1 _ (he.on hb) hr rfl (by omega) (by decide)).mono ?_
  rintro e w' ⟨rfl,h⟩
  exact ⟨rfl,on_below hb h⟩
theorem line3 (x0 x1 x2 : Int) (h0 : in64 x0) (h1 : in64 x1) (h2 : in64 x2) (w : World) (he : EnvW w) :
    Calls Tryz.prog 47 #[.string ⟨#[101,110,100]⟩,.slice (some ⟨w.heap.size,0,none⟩) 3 3] (w.alloc (.cells #[.int .i64 x0,.int .i64 x1,.int .i64 x2] 3)) fun e w'=>e = .returned (.string (bstr (lineT tEnd [x0,x1,x2])))∧Below w.heap.size w w':=by
  have hb : Below w.heap.size w (w.alloc (.cells (iv [x0,x1,x2]).toArray 3)):=(Below.refl _ _).alloc (Nat.le_refl _) _
  have hr:=rowi_made w [x0,x1,x2] 3 (by unfold maxLen;simp) (fun x hx=>by
    simp only [List.mem_cons,List.not_mem_nil,or_false] at hx
    rcases hx with rfl|rfl|rfl <;> assumption)
  refine (re_line tEnd [x0,x1,x2] (some ⟨w.heap.size,0,none⟩) 3 3 _ (he.on hb) hr rfl (by omega) (by decide)).mono ?_
  rintro e w' ⟨rfl,h⟩
  exact ⟨rfl,on_below hb h⟩
theorem line4 (x0 x1 x2 x3 : Int) (h0 : in64 x0) (h1 : in64 x1) (h2 : in64 x2) (h3 : in64 x3) (w : World) (he : EnvW w) :
    Calls Tryz.prog 47 #[.string ⟨#[112,97,114,116]⟩,.slice (some ⟨w.heap.size,0,none⟩) 4 4] (w.alloc (.cells #[.int .i64 x0,.int .i64 x1,.int .i64 x2,.int .i64 x3] 3)) fun e w'=>e = .returned (.string (bstr (lineT tPart [x0,x1,x2,x3])))∧Below w.heap.size w w':=by
  have hb : Below w.heap.size w (w.alloc (.cells (iv [x0,x1,x2,x3]).toArray 3)):=(Below.refl _ _).alloc (Nat.le_refl _) _
  have hr:=rowi_made w [x0,x1,x2,x3] 3 (by unfold maxLen;simp) (fun x hx=>by
    simp only [List.mem_cons,List.not_mem_nil,or_false] at hx
    rcases hx with rfl|rfl|rfl|rfl <;> assumption)
  refine (re_line tPart [x0,x1,x2,x3] (some ⟨w.heap.size,0,none⟩) 4 4 _ (he.on hb) hr rfl (by omega) (by decide)).mono ?_
  rintro e w' ⟨rfl,h⟩
  exact ⟨rfl,on_below hb h⟩
theorem pt_fits {s : St} (h : s.Ok) {k : Nat} (hk : k<s.ps.length) : in64 (pat s.ps k).is∧in64 ((pat s.ps k).read : Int)∧in64 (pat s.ps k).mark:=by
  have hp:=h.pt _ (pat_mem hk)
  have h1:=hp.lo
  have h2:=hp.hi
  have h3:=hp.rd
  have h4:=hp.few
  exact ⟨by unfold in64;omega,by unfold in64;omega,mark_in hp⟩
theorem partsT_len {s : St} (h : s.Ok) : ∀ k,k≤s.ps.length→(partsT s k).length≤k*111
  | 0,_=>by simp [partsT]
  | k+1,hk=>by
    have h1:=partsT_len h k (by omega)
    obtain ⟨f1,f2,f3⟩:=pt_fits h (show k<s.ps.length by omega)
    have h8:=h.n
    have h2:=lineT_len (name:=tPart) (ns:=[(k : Int),(pat s.ps k).is,((pat s.ps k).read : Int),(pat s.ps k).mark]) (by decide) (fun x hx=>by
      simp only [List.mem_cons,List.not_mem_nil,or_false] at hx
      rcases hx with rfl|rfl|rfl|rfl
      · unfold in64;omega
      · exact f1
      · exact f2
      · exact f3)
    unfold partsT
    rw [List.length_append,Nat.succ_mul]
    simp only [List.length_cons,List.length_nil] at h2
    omega
theorem case_okR {rs : List Rul} {t d : Int} {ls : List ByteArray} {m : Nat} (hm : m=ls.length) (hz : nerr rs t d m=0) (h8 : m≤8) (hf : ∀ r∈rs,r.Fits) (ht : in64 t) (hd : in64 d) (hs : ∀ s∈ls,s.size≤400) : (St.new t d rs (ls.map fun s=>s.data.toList)).Ok:=by
  obtain ⟨hc0,hmn⟩:=nerr_zero hz
  have ht1:=ccheck_t hc0
  exact new_ok (by rw [List.length_map];omega) (by omega) (fun r hr=>⟨ccheck_ok hc0 r hr,hf r hr⟩) (fun l hl=>by
    obtain ⟨s,hs',rfl⟩:=List.mem_map.1 hl
    exact hs s hs') ⟨ht1.2.1,ht.2⟩ ⟨ht1.2.2,hd.2⟩
section
variable {w0 w : World} {tag : Nat→Nat} {W : Nat→Nat→Prop} {ev : Value} {V : SrcV} {g : Nat} {s : St} {evs : List Ev} {beg : Nat}
theorem SrcI.tl_count (h : SrcI w0 w tag W ev V g s evs beg) (i : Nat) (hi : i<s.ps.length) (z : Nat) (hz : (pat s.ps i).read=z) : Calls Tryz.prog 62 #[.pointer (some ⟨g,0,none⟩),.int .i64 i] w fun e w'=>e = .returned (.int .i64 z)∧w=w' :=
  so_count tag W ev V g _ i _ w h.src (by rw [if_pos ⟨by omega,by show (i : Int)<(s.ps.length : Nat);omega⟩,Int.toNat_natCast,← hz];rfl)
theorem SrcI.tl_status (h : SrcI w0 w tag W ev V g s evs beg) (i : Nat) (hi : i<s.ps.length) (z : Int) (hz : (pat s.ps i).is=z) : Calls Tryz.prog 61 #[.pointer (some ⟨g,0,none⟩),.int .i64 i] w fun e w'=>e = .returned (.int .i64 z)∧w=w':=by
  rw [← hz];exact h.status i hi
theorem SrcI.tl_mark (h : SrcI w0 w tag W ev V g s evs beg) (i : Nat) (hi : i<s.ps.length) (z : Int) (hz : (pat s.ps i).mark=z) : Calls Tryz.prog 63 #[.pointer (some ⟨g,0,none⟩),.int .i64 i] w fun e w'=>e = .returned (.int .i64 z)∧w=w' :=
  so_mark tag W ev V g _ i _ w h.src (by rw [if_pos ⟨by omega,by show (i : Int)<(s.ps.length : Nat);omega⟩,Int.toNat_natCast,← hz];rfl)
theorem SrcI.tl_now (h : SrcI w0 w tag W ev V g s evs beg) : Calls Tryz.prog 64 #[.pointer (some ⟨g,0,none⟩)] w fun e w'=>e = .returned (.int .i64 s.now)∧w=w':=so_now tag W ev V g _ w h.src
theorem SrcI.tl_time (h : SrcI w0 w tag W ev V g s evs beg) : Calls Tryz.prog 65 #[.pointer (some ⟨g,0,none⟩)] w fun e w'=>e = .returned (.int .i64 s.clock)∧w=w':=so_time tag W ev V g _ w h.src
end
theorem rcheck_in (r : Rul) : in64 (rcheck r):=by
  unfold rcheck in64
  (repeat' split) <;> omega
theorem firstErr_in : ∀ rs : List Rul,in64 (firstErr rs)
  | []=>by unfold firstErr in64;omega
  | r::rs=>by
    unfold firstErr
    split
    · exact rcheck_in r
    · exact firstErr_in rs
theorem nerr_in (rs : List Rul) (t d : Int) (m : Nat) : in64 (nerr rs t d m):=by
  have h:=firstErr_in rs
  unfold nerr ccheck
  (repeat' split) <;> first|exact h|(unfold in64;omega)
theorem re_play {a : Option Addr} {n c : Nat} {t d : Int} {b : Option Addr} {m c2 : Nat} {q : Option Addr} {nq c3 : Nat} {rs : List Rul} {ls : List ByteArray} {cs : List (Bool×Int)} (w : World) (he : EnvE w) (hC : CaseC w a n c t d b m c2 q nq c3 rs ls cs) (hS : SmallC n m nq ls) (T : List UInt8) (hT : playT t d rs (ls.map fun s=>s.data.toList) cs=T) :
    Calls Tryz.prog 24 #[.agg #[.slice a n c,.int .i64 t,.int .i64 d,.slice b m c2,.slice q nq c3]] w fun e w'=>e = .returned (.string (bstr T))∧Below w.heap.size w w':=by
  obtain ⟨hm8,hnq,hn5,h400⟩:=hS
  have hbx : Below w.heap.size w (w.alloc (.cells #[.slice a n c,.int .i64 t,.int .i64 d,.slice b m c2,.slice q nq c3] 33)):=(Below.refl _ _).alloc (Nat.le_refl _) _
  have hA0:=At.alloc w [.slice a n c,.int .i64 t,.int .i64 d,.slice b m c2,.slice q nq c3] 33
  have hC0:=hC.on hbx
  have he0:=he.on hbx
  have hsz : w.heap.size<(w.alloc (.cells #[.slice a n c,.int .i64 t,.int .i64 d,.slice b m c2,.slice q nq c3] 33)).heap.size:=hA0.1
  have hll : (ls.map fun s=>s.data.toList).length=m:=by rw [List.length_map];exact hC.hm.symm
  unfold playT at hT
  rw [hll] at hT
  obtain ⟨w0,hw0⟩ : ∃ w0,w.alloc (.cells #[.slice a n c,.int .i64 t,.int .i64 d,.slice b m c2,.slice q nq c3] 33)=w0:=⟨_,rfl⟩
  rw [hw0] at hbx hA0 hC0 he0 hsz
  have HA:=fun wx (hx : Below w0.heap.size w0 wx)=>At.five (hA0.below hx hsz)
  obtain ⟨hg,y0,-,y1,-,y2,-,y3,-,y4,-⟩:=HA w0 (Below.refl _ _)
  by_cases hz : nerr rs t d m=0
  · rw [if_pos hz] at hT
    have HN:=Lib.hid (case_new rs t d ls a n c b m c2 w0 w0 (Below.refl _ _) hC0.hru hC0.hlo hC0.hn hC0.hm hz hm8 hC0.hfit hC0.ht hC0.hd h400)
    have hpl:=new_plen (d:=d) hC0.hm hz
    obtain ⟨hcc,hmn⟩:=nerr_zero hz
    have hf0:=fine_new (t:=t) (rs:=rs) (ls:=ls.map fun s=>s.data.toList) (by rw [hll];exact hmn) (by rw [← hmn];exact hm8) (fun r hr=>⟨ccheck_ok hcc r hr,hC0.hfit r hr⟩) (fun l hl=>by
      obtain ⟨s,hs',rfl⟩:=List.mem_map.1 hl
      exact h400 s hs') ⟨(ccheck_t hcc).2.1,hC0.ht.2⟩
    have hel:=newE_len t rs (ls.map fun s=>s.data.toList)
    have hnm : n=m:=by rw [hC0.hn,hmn]
    subst hnm
    rw [← hmn] at hT hel
    generalize hs0 : St.new t d rs (ls.map fun s=>s.data.toList)=s0 at *
    generalize St.newE t rs (ls.map fun s=>s.data.toList)=l0 at *
    have HL : Hid (l0.length≤9):=by show l0.length≤9;omega
    have HT:=Lib.hid hT
    have HF0:=Lib.hid hf0
    have HP0:=Lib.hid hpl
    have HE0:=Lib.hid he0
    have HOK:=Lib.hid (case_okR hC0.hm hz hm8 hC0.hfit hC0.ht hC0.hd h400)
    rw [hs0] at HOK
    have HMN:=Lib.hid hmn
    clear hT hf0 hz hcc hel hll hs0 he hmn hpl
    go_enter Tryz.func24,Tryz.ntmps24
    go_wp2_with (first|(go_at_call 57;(with_reducible refine HN.out.mono ?_);intro e w1 h1;obtain ⟨tag,W,ev,V,g,rfl,hI,hb1⟩:=h1)|fail)
    clear hw0
    obtain ⟨-,x0,-,x1,-,x2,-,x3,-,x4,-⟩:=HA w1 hb1
    clear y0 y1 y2 y3 y4
    go_wp2
    go_loopw [26] (fun i wr=>∃ k : Nat,k≤nq∧i = .int .i64 k∧∃ tag W ev,SrcI w0 wr tag W ev V g (s0.run (cs.take k)) (l0++s0.runE (cs.take k)) l0.length) (fun i _=>nq - (intOf i).toNat)
    case atStart =>
      refine ⟨0,Nat.zero_le _,rfl,tag,W,ev,?_⟩
      show SrcI w0 w1 tag W ev V g s0 (l0++[]) l0.length
      rw [List.append_nil]
      exact hI
    case round =>
      clear hI HN x0 x1 x2 x3 x4
      obtain ⟨k,hk,rfl,tag,W,ev,hI⟩:=hrel
      by_cases hlt : k<nq
      · have hkc : k<cs.length:=by rw [← hC0.hnq];exact hlt
        have hrow:=(hC0.on hI.new).hch
        obtain ⟨bq,offq,hq',-,-⟩:=hrow.at_ k hkc
        subst hq'
        obtain ⟨hbq,r0,r1⟩:=RowC.cells hrow k hkc
        have hin:=hC0.hci _ (List.getElem_mem hkc)
        have hrl:=runE_len (cs.take k) s0
        rw [List.length_take] at hrl
        have hel : (l0++s0.runE (cs.take k)).length≤90000:=by rw [List.length_append];have:=HL.out;omega
        have HS1:=Lib.hid (run_take s0 cs k hkc)
        have HE1:=Lib.hid (runE_take s0 cs k hkc)
        generalize hck : cs[k]=x at *
        have HCK:=Lib.hid hck
        clear hck hrow
        obtain ⟨ct,cn⟩:=x
        simp only at r0 r1 hin
        have hba : Below wr.heap.size wr (wr.alloc (.cells #[.bool ct,.int .i64 cn] 50)):=(Below.refl _ _).alloc (Nat.le_refl _) _
        have hI2:=hI.on hba
        have HD:=Lib.hid (so_do tag W ev V g _ _ _ ct cn _ hI2.src hI2.ok hin hel)
        clear hrl hel hba
        go_wp2_with (first|(go_at_call 58;(with_reducible refine HD.out.mono ?_);intro e w2 hD;obtain ⟨v,tag2,W2,ev2,rfl,-,hI3,-,-⟩:=hI2.did hD))
        go_roundw
        case rel =>
          refine ⟨k+1,by omega,by go_num,tag2,W2,ev2,?_⟩
          rw [HS1.out,HE1.out,← List.append_assoc]
          exact hI3
        case measure=>simp [intOf];omega
      · obtain rfl : k=nq:=by omega
        have hrl:=runE_len cs s0
        have hck : cs.take k=cs:=List.take_of_length_le (by rw [← hC0.hnq];exact Nat.le_refl _)
        rw [hck] at hI
        have hel : (l0++s0.runE cs).length≤369:=by rw [List.length_append];have:=HL.out;have:=hC0.hnq;omega
        have HE:=Lib.hid (so_events tag W ev V g _ wr hI.src (by show (l0++s0.runE cs).length≤100000;omega))
        rw [show (loOf (s0.run cs) (l0++s0.runE cs) l0.length).evs=l0++s0.runE cs from rfl] at HE
        have hfin : ∀ v∈l0++s0.runE cs,Fine v:=fun v hv=>by
          rcases List.mem_append.1 hv with hv|hv
          · exact HF0.out v hv
          · exact fine_run cs HOK.out v hv
        have hsr:=HOK.out.run cs
        have hpl : (s0.run cs).ps.length=n:=by rw [run_len];exact HP0.out
        have hT:=HT.out
        have HH:=Lib.hid hC0.hnq
        clear hck hrl HL HF0
        generalize s0.run cs=s at *
        generalize l0++s0.runE cs=L at *
        obtain ⟨N,hN⟩ : ∃ N,L.length=N:=⟨_,rfl⟩
        rw [hN] at HE hel
        have hmx:=etexts_max L hfin
        rw [hN] at hmx
        have hpt:=fun k hk=>partsT_len hsr k hk
        have hlt9:=lates_le L
        rw [hN] at hlt9
        have HFN:=Lib.hid hfin
        have HNN:=Lib.hid hN
        have HPT:=Lib.hid hpt
        have HSR:=Lib.hid hsr
        have HPL:=Lib.hid hpl
        have HTT:=Lib.hid hT
        clear hfin hN hpt hsr hpl hT HT HP0 HOK
        go_wp2_with (first|(go_at_call 59;(with_reducible refine HE.out.mono ?_);intro e w3 h3;obtain ⟨v,rfl,q1,q2⟩:=h3;obtain ⟨hnl,aE,cE,rfl,hE⟩:=rowe_of_sl q1)|fail)
        have hb3:=on_below hI.new q2
        have hI3:=hI.on q2
        have hwz:=b_zero w3
        have hwb : Below w3.heap.size w3 (w3.alloc (.cells #[.pointer none,.slice none 0 0] 81)):=(Below.refl _ _).alloc (Nat.le_refl _) _
        have hw3:=hb3.size
        have HTX:=Lib.hid (ev_text aE N cE L (w3.alloc (.cells #[.pointer none,.slice none 0 0] 81)) ((HE0.out.on hb3).on hwb) (by have:=hE.on hwb;exact this) HNN.out.symm (by omega) (fun v hv=>⟨(HFN.out v hv).1,Nat.le_trans (HFN.out v hv).2 (by omega)⟩) (by omega))
        have HW1:=Lib.hid (fun w' h hB=>b_write w3.heap.size w3.heap.size [] (bstr (etexts L)) w' h (by rw [tx_size];simp only [List.length_nil];omega) hB)
        have HWZ:=Lib.hid hwz
        have HWB:=Lib.hid hwb
        rw [HNN.out]
        clear HE hI hwz q1 hnl
        go_wp2_with (first|(go_at_call 60;(with_reducible refine HTX.out.mono ?_);rintro e w4 ⟨rfl,hb4⟩;have hB4:=bld_on HWZ.out hb4;have hc4:=on_below HWB.out hb4)|(go_at_call 36;(with_reducible refine (HW1.out _ hB4 hc4.size).mono ?_);rintro e w5 ⟨rfl,hB5,hq5,-⟩;have hc5:=hc4.trans hq5;obtain ⟨-,x0,-,x1,-,x2,-,x3,-,x4,-⟩:=HA w5 (on_below hb3 hc5))|fail)
        have hBL : Bld w3.heap.size w3.heap.size (etexts L++partsT s 0) w5:=by
          show Bld _ _ (etexts L++[]) w5
          rw [List.append_nil]
          exact hB5
        clear HTX HW1 hB4 hc4 hb4 hB5 hq5
        go_loopw [43] (fun i wr=>∃ k : Nat,k≤n∧i = .int .i64 k∧Bld w3.heap.size w3.heap.size (etexts L++partsT s k) wr∧Below w3.heap.size w3 wr) (fun i _=>n - (intOf i).toNat)
        case atStart=>exact ⟨0,Nat.zero_le _,rfl,hBL,hc5⟩
        case round =>
          clear hBL hc5 x0 x1 x2 x3 x4
          obtain ⟨j,hj,rfl,hbl,hb⟩:=hrel
          have hIr:=hI3.on hb
          have her:=(HE0.out.on hb3).on hb
          have hwB:=hb.size
          by_cases hjl : j<n
          · have hjp : j<s.ps.length:=by rw [HPL.out];exact hjl
            obtain ⟨f1,f2,f3⟩:=pt_fits HSR.out hjp
            have hpl1:=HPT.out (j+1) hjp
            obtain ⟨X,hX⟩ : ∃ X,etexts L++partsT s j=X:=⟨_,rfl⟩
            have hXl : X.length≤1514175:=by rw [← hX,List.length_append];have:=HPT.out j (by omega);omega
            have hnx : etexts L++partsT s (j+1)=X++lineT tPart [(j : Int),(pat s.ps j).is,((pat s.ps j).read : Int),(pat s.ps j).mark]:=by rw [← hX,List.append_assoc];rfl
            have hll:=lineT_len (name:=tPart) (ns:=[(j : Int),(pat s.ps j).is,((pat s.ps j).read : Int),(pat s.ps j).mark]) (by decide) (fun x hx=>by
              simp only [List.mem_cons,List.not_mem_nil,or_false] at hx
              rcases hx with rfl|rfl|rfl|rfl
              · unfold in64;omega
              · exact f1
              · exact f2
              · exact f3)
            simp only [List.length_cons,List.length_nil] at hll
            have HST:=fun z hz=>Lib.hid (hIr.tl_status j hjp z hz)
            have HCN:=fun z hz=>Lib.hid (hIr.tl_count j hjp z hz)
            have HMK:=fun z hz=>Lib.hid (hIr.tl_mark j hjp z hz)
            have HLN:=Lib.hid (line4 (j : Int) (pat s.ps j).is ((pat s.ps j).read : Int) (pat s.ps j).mark (by unfold in64;omega) f1 f2 f3 wr her.wd)
            rw [hX] at hbl
            have HNX:=Lib.hid hnx
            clear hnx hX hpl1 f1 f2 f3
            generalize lineT tPart [(j : Int),(pat s.ps j).is,((pat s.ps j).read : Int),(pat s.ps j).mark]=LT at *
            have HST:=HST _ rfl
            have HCN:=HCN _ rfl
            have HMK:=HMK _ rfl
            generalize (pat s.ps j).is=z1 at *
            generalize (pat s.ps j).read=z2 at *
            generalize (pat s.ps j).mark=z3 at *
            have HW:=Lib.hid (fun w' h hB=>b_write w3.heap.size w3.heap.size X (bstr LT) w' h (by rw [tx_size];omega) hB)
            go_wp2_with (first|(go_at_call 61;(with_reducible refine HST.out.mono ?_);rintro e w6 ⟨rfl,rfl⟩)|(go_at_call 62;(with_reducible refine HCN.out.mono ?_);rintro e w6 ⟨rfl,rfl⟩)|(go_at_call 63;(with_reducible refine HMK.out.mono ?_);rintro e w6 ⟨rfl,rfl⟩)|(go_at_call 47;(with_reducible refine HLN.out.mono ?_);rintro e w7 ⟨rfl,hb7⟩;have hB7:=bld_on hbl hb7;have hc7:=on_below hb hb7)|(go_at_call 36;(with_reducible refine (HW.out _ hB7 hc7.size).mono ?_);rintro e w8 ⟨rfl,hB8,hq8,-⟩)|fail)
            go_roundw
            case rel=>exact ⟨j+1,by omega,by go_num,by rw [HNX.out];exact hB8,hc7.trans hq8⟩
            case measure=>simp [intOf];omega
          · obtain rfl : j=n:=by omega
            obtain ⟨X,hX⟩ : ∃ X,etexts L++partsT s j=X:=⟨_,rfl⟩
            have hXl : X.length≤1514175:=by rw [← hX,List.length_append];have:=HPT.out j (by rw [HPL.out];exact Nat.le_refl _);have:=hj;omega
            have hTX:=HTT.out
            unfold outT at hTX
            rw [hX] at hTX
            rw [hX] at hbl
            have hnw:=HSR.out.nw
            have hck:=HSR.out.ck
            obtain ⟨la,hla⟩ : ∃ la,lates L=la:=⟨_,rfl⟩
            rw [hla] at hlt9 hTX
            have hll:=lineT_len (name:=tEnd) (ns:=[s.now,s.clock,(la : Int)]) (by decide) (fun x hx=>by
              simp only [List.mem_cons,List.not_mem_nil,or_false] at hx
              rcases hx with rfl|rfl|rfl
              · exact hnw
              · exact hck
              · unfold in64;omega)
            simp only [List.length_cons,List.length_nil] at hll
            have HNW:=Lib.hid hIr.tl_now
            have HTM:=Lib.hid hIr.tl_time
            have HLA:=Lib.hid (ju_lates aE N cE L wr (hE.on hb) HNN.out.symm (by omega) la hla)
            have HLN:=fun wx hx=>Lib.hid (line3 s.now s.clock (la : Int) hnw hck (by unfold in64;omega) wx hx)
            have HTX:=Lib.hid hTX
            clear hTX hX hla hnw hck
            generalize lineT tEnd [s.now,s.clock,(la : Int)]=LT at *
            generalize s.now=z1 at *
            generalize s.clock=z2 at *
            have HW:=Lib.hid (fun w' h hB=>b_write w3.heap.size w3.heap.size X (bstr LT) w' h (by rw [tx_size];omega) hB)
            have HS:=Lib.hid (fun w' h hB=>b_text w3.heap.size w3.heap.size (X++LT) w' h hB)
            go_wp2_with (first|(go_at_call 64;(with_reducible refine HNW.out.mono ?_);rintro e w6 ⟨rfl,rfl⟩)|(go_at_call 65;(with_reducible refine HTM.out.mono ?_);rintro e w6 ⟨rfl,rfl⟩)|(go_at_call 35;(with_reducible refine HLA.out.mono ?_);rintro e w6 ⟨rfl,hb6⟩;have HL6:=HLN w6 (her.on hb6).wd;have hbl6:=bld_on hbl hb6;have hc6:=on_below hb hb6)|(go_at_call 47;(with_reducible refine HL6.out.mono ?_);rintro e w7 ⟨rfl,hb7⟩;have hB7:=bld_on hbl6 hb7;have hc7:=on_below hc6 hb7)|(go_at_call 36;(with_reducible refine (HW.out _ hB7 hc7.size).mono ?_);rintro e w8 ⟨rfl,hB8,hq8,-⟩;have hc8:=hc7.trans hq8)|(go_at_call 40;(with_reducible refine (HS.out _ hB8 hc8.size).mono ?_);rintro e w9 ⟨rfl,hb9⟩)|fail)
            go_ret
            exact ⟨by rw [← HTX.out];rfl,on_below hbx (on_below hb3 (hc8.trans hb9))⟩
  · rw [if_neg hz] at hT
    have hin:=nerr_in rs t d m
    obtain ⟨z,hzz⟩ : ∃ z,nerr rs t d m=z:=⟨_,rfl⟩
    have HN:=Lib.hid (so_new_none rs t d ls a n c b m c2 w0 hC0.hru hC0.hn (by omega) hC0.hm z hzz (by rw [← hzz];exact hz))
    rw [hzz] at hT hin hz
    have hz0 : (z != 0)=true:=by rw [bne_iff_ne];exact hz
    subst hT
    have HL1:=fun wx (hx : EnvW wx)=>Lib.hid (line1 z hin wx hx)
    clear hzz hz
    go_enter Tryz.func24,Tryz.ntmps24
    go_wp2_with (first|(go_at_call 57;(with_reducible refine HN.out.mono ?_);rintro e w1 ⟨rfl,hb1⟩)|(go_at_call 47;(with_reducible refine (HL1 w1 (he0.on hb1).wd).out.mono ?_);rintro e w2 ⟨rfl,hb2⟩)|fail)
    go_ret
    exact ⟨rfl,on_below hbx (on_below hb1 hb2)⟩
end Go.Proofs.YtmimfkhkilijcaaGreatDoor
