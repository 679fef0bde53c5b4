/- KQuC: what is reached of them. -/
import Derived.Test.YtmimfkhkilijcaaGreatDoorPq05
import Derived.Test.YtmimfkhkilijcaaGreatDoorPq07
import Derived.Lib.IndexMore
import Derived.Test.YtmimfkhkilijcaaGreatDoorPq03
set_option linter.unusedVariables false
set_option linter.unusedSimpArgs false
set_option maxRecDepth 100000
set_option maxHeartbeats 8000000
namespace Go.Proofs.YtmimfkhkilijcaaGreatDoor
open Go.ChangeShapes Go.WideShapes Go.ChangeAt Go.RowKit
open PSign PHex PQuote
def SpPost (w : World) (e : Ending) (w' : World) : Prop :=
  ∃ (v : Nat) (x : Value),e = .returned (.tuple #[.int .u64 v,x])∧v<18446744073709551616∧(x = .nilIface∨∃ p,x = .iface 330 (.pointer (some p)))∧Below w.heap.size w w'
theorem sp_of (b : Int) (s : ByteArray) (w : World) (hb : b=8∨b=31) (he : Env w) (hs : s.size≤4096)
    (h : Calls Tryz.prog 272 #[.string s,.int .i64 16,.int .i64 b] w (PuPost w)) :
    Calls Tryz.prog 274 #[.string s,.int .i64 16,.int .i64 b] w (SpPost w):=by
  have H:=Lib.hid h
  have hsyn:=fun (w' : World) (he' : Env w') (ev : Value) (h1 : w'.cell? ⟨5,0,none⟩=some ev) (h2 : ev = .nilIface∨∃ te pe,ev = .iface te pe)=>Tryz.strconv_toError_syntax ⟨#[80,97,114,115,101,85,105,110,116]⟩ s 16 b ev w' (by omega) h1 h2
  have hrng:=fun (w' : World) (he' : Env w') (ev : Value) (h1 : w'.cell? ⟨6,0,none⟩=some ev) (h2 : ev = .nilIface∨∃ te pe,ev = .iface te pe)=>Tryz.strconv_toError_range ⟨#[80,97,114,115,101,85,105,110,116]⟩ s 16 b ev w' (by omega) h1 h2
  have HSYN:=Lib.hid hsyn
  have HRNG:=Lib.hid hrng
  clear h hsyn hrng
  go_enter Tryz.func274,Tryz.ntmps274
  go_wp2_with (go_at_call 272;refine H.out.mono ?_)
  rintro e w1 ⟨v,x,rfl,hv,hx,hb1⟩
  have he1:=he.on hb1
  rcases hx with rfl|rfl|rfl
  · go_wp2
    go_ret2
    exact ⟨v,_,rfl,hv,.inl rfl,hb1⟩
  · obtain ⟨ev,h1,h2⟩:=he1.rng
    have HR:=Lib.hid (HRNG.out w1 he1 ev h1 h2)
    go_wp2_with (go_at_call 230;refine HR.out.mono ?_;rintro e w2 ⟨N,rfl,-,-,hb2⟩)
    go_ret2
    exact ⟨v,_,rfl,hv,.inr ⟨_,rfl⟩,on_below hb1 hb2⟩
  · obtain ⟨ev,h1,h2⟩:=he1.syn
    have HR:=Lib.hid (HSYN.out w1 he1 ev h1 h2)
    go_wp2_with (go_at_call 230;refine HR.out.mono ?_;rintro e w2 ⟨N,rfl,-,-,hb2⟩)
    go_ret2
    exact ⟨v,_,rfl,hv,.inr ⟨_,rfl⟩,on_below hb1 hb2⟩
theorem sp_ok (b : Int) (s : ByteArray) (m : Nat) (w : World)
    (h : Calls Tryz.prog 272 #[.string s,.int .i64 16,.int .i64 b] w fun e w'=>e = .returned (.tuple #[.int .u64 m,.nilIface])∧Below w.heap.size w w') :
    Calls Tryz.prog 274 #[.string s,.int .i64 16,.int .i64 b] w fun e w'=>e = .returned (.tuple #[.int .u64 m,.nilIface])∧Below w.heap.size w w':=by
  have H:=Lib.hid h
  clear h
  go_enter Tryz.func274,Tryz.ntmps274
  go_wp2_with (go_at_call 272;refine H.out.mono ?_;rintro e w1 ⟨rfl,hb1⟩)
  go_ret2
  exact ⟨rfl,hb1⟩
def PiecePost (n : Nat) (w : World) (e : Ending) (w' : World) : Prop :=
  ∃ (l : List UInt8) (k : Nat),e = .returned (.tuple #[.string (bstr l),.int .i64 k])∧k≤n∧l.length≤k∧Below w.heap.size w w'
theorem one_text_mod (v : Nat) (w : World) (N : Nat) (hN : w.heap.size=N) :
    (convert 79 9 (.slice (some ⟨N,0,none⟩) 1 1)).run Tryz.prog (w.alloc (.cells #[.int .u8 ((v : Int) % 256)] 5)) = .ok (.string (bstr [UInt8.ofNat v])) (w.alloc (.cells #[.int .u8 ((v : Int) % 256)] 5)):=by
  have h:=one_text_q (UInt8.ofNat v) w N hN
  have e : ((UInt8.ofNat v).toNat : Int)=(v : Int) % 256:=by simp
  rw [e] at h
  exact h
theorem stray_any (r : ByteArray) (w : World) (he : Env w) (hs : r.size≤4096) :
    Calls Tryz.prog 261 #[.string r] w (PiecePost (r.size+2) w):=by
  by_cases h2 : r.size<2
  · have h2' : (r.size : Int)<2:=by omega
    clear h2
    go_enter Tryz.func261,Tryz.ntmps261
    go_wp2
    go_ret2
    exact ⟨[],0,rfl,by omega,by simp,Below.refl _ _⟩
  · have h2' : ¬ (r.size : Int)<2:=by omega
    have hsl : (2 : Int)≤r.size:=by omega
    have hp:=sp_of 8 (r.extract 0 2) w (.inl rfl) he (by simp;omega) (pu_any8 (r.extract 0 2) w (by unfold maxLen;simp;omega))
    have HP:=Lib.hid hp
    have hr2 : 2≤r.size:=by omega
    clear hp
    go_enter Tryz.func261,Tryz.ntmps261
    go_wp2_with (go_at_call 274;refine HP.out.mono ?_)
    rintro e w1 ⟨v,x,rfl,hv,hx,hb1⟩
    rcases hx with rfl|⟨p,rfl⟩
    · have kc:=one_text_mod v w1 w1.heap.size rfl
      have hb2 : Below w.heap.size w (w1.alloc (.cells #[.int .u8 ((v : Int) % 256)] 5)):=hb1.alloc hb1.size _
      go_wp2
      go_ret2
      exact ⟨[UInt8.ofNat v],4,rfl,by omega,by simp,hb2⟩
    · go_wp2
      go_ret2
      exact ⟨[],0,rfl,by omega,by simp,hb1⟩
theorem stray_ok (m : Nat) (rest : List UInt8) (w : World) (h1 : 128≤m) (h2 : m≤255) (hs : rest.length≤100000) :
    Calls Tryz.prog 261 #[.string (bstr (hex m++rest))] w fun e w'=>e = .returned (.tuple #[.string (bstr [UInt8.ofNat m]),.int .i64 4])∧Below w.heap.size w w':=by
  have hlen : (hex m).length=2:=by rw [hex_high (by omega),hex_low (by omega)];rfl
  have hsz : (bstr (hex m++rest)).size=rest.length+2:=by rw [bstr_len,List.length_append,hlen];omega
  have hex2 : (bstr (hex m++rest)).extract 0 2=bstr (hex m):=by
    apply ByteArray.ext
    apply Array.ext'
    rw [Lib.extract_data]
    show List.take (2 - 0) (List.drop 0 (hex m++rest))=hex m
    rw [List.drop_zero,Nat.sub_zero,← hlen,List.take_left]
  have hp:=sp_ok 8 (bstr (hex m)) m w (pu_ok8 (bstr (hex m)) m w rfl h2 (by rw [bstr_len,hlen];decide))
  rw [← hex2] at hp
  have HP:=Lib.hid hp
  clear hp hlen hex2
  generalize bstr (hex m++rest)=t at *
  have hszI : (t.size : Int)=(rest.length : Int)+2:=by omega
  have hrI : (rest.length : Int)≤100000:=by omega
  have h2' : ¬ ((t.size : Int)<2):=by omega
  have hsl : (2 : Int)≤t.size:=by omega
  clear hszI hsz
  go_enter Tryz.func261,Tryz.ntmps261
  go_wp2_with (go_at_call 274;refine HP.out.mono ?_)
  rintro e w1 rfl hb1
  have kc:=one_text_q (UInt8.ofNat m) w1 w1.heap.size rfl
  have e8 : ((UInt8.ofNat m).toNat : Int)=(m : Int):=by simp;omega
  rw [e8] at kc
  clear e8
  have hb2 : Below w.heap.size w (w1.alloc (.cells #[.int .u8 (m : Int)] 5)):=hb1.alloc hb1.size _
  go_wp2
  go_ret2
  exact ⟨rfl,hb2⟩
theorem index_close (l rest : List UInt8) (h : ∀ c∈l,c≠125) : Lib.index (l++125::rest) [125]=(l.length : Int):=by
  refine Lib.index_first (i:=l.length) (by simp) ?_ ?_
  · simp [Lib.occAt]
  · intro j hj
    have hne:=h _ (List.getElem_mem hj)
    simp only [Lib.occAt]
    have h2 : ((125 : UInt8) == l[j])=false:=by
      rw [beq_eq_false_iff_ne]
      exact fun e=>hne e.symm
    rw [List.drop_append_of_le_length (by omega),List.drop_eq_getElem_cons hj,List.cons_append]
    show ((125 : UInt8) == l[j] && ([] : List UInt8).isPrefixOf _)=false
    rw [h2]
    rfl
theorem cut_close (l rest : List UInt8) (h : ∀ c∈l,c≠125) : Lib.cut (l++125::rest) [125]=(l,rest,true):=by
  unfold Lib.cut
  rw [index_close l rest h,if_pos (by omega)]
  simp
theorem cut_len (l : List UInt8) (h : (Lib.cut l [125]).2.2=true) : (Lib.cut l [125]).1.length+1≤l.length:=by
  unfold Lib.cut at h ⊢
  split
  · rename_i h0
    have:=Lib.index_room l [125] h0
    simp at this ⊢
    omega
  · rename_i h0
    rw [if_neg h0] at h
    cases h
theorem cut_len' (l : List UInt8) : (Lib.cut l [125]).1.length≤l.length:=by
  unfold Lib.cut
  split
  · simp
    omega
  · exact Nat.le_refl _
theorem enc_len (n : Int) : (Utf8.encode n).size≤4:=by
  unfold Utf8.encode
  simp only
  (repeat' split) <;> simp [ByteArray.size]
theorem cut_in (s : ByteArray) (c : UInt8) (w : World) (hs : s.size≤200000) :
    Calls Tryz.prog 85 #[.string s,.string ⟨#[c]⟩] w fun e w'=>e = .returned (.tuple #[.string (bstr (Lib.cut s.data.toList [c]).1),.string (bstr (Lib.cut s.data.toList [c]).2.1),.bool (Lib.cut s.data.toList [c]).2.2])∧∃ n,w'=w.drewN n:=by
  have hi : Calls Tryz.prog 124 #[.string s,.string ⟨#[c]⟩] w fun e w'=>e = .returned (.int .i64 (Lib.index s.data.toList [c]))∧w=w':=(Tryz.stringslite_Index_one s c w).mono fun e w' h=>⟨by rw [h.1,Lib.index_one],h.2.symm⟩
  have hge:=Lib.index_ge s.data.toList [c]
  have hro:=Lib.index_room s.data.toList [c]
  have hrl : s.data.toList.length=s.size:=by simp
  rw [hrl] at hro
  simp only [List.length_cons,List.length_nil] at hro
  unfold Lib.cut
  generalize Lib.index s.data.toList [c]=i at *
  by_cases h0 : 0≤i
  · obtain ⟨k,rfl⟩:=Int.eq_ofNat_of_zero_le h0
    have hk:=hro h0
    have hk1 : k+1≤s.size:=by omega
    rw [if_pos h0]
    simp only [Int.toNat_natCast,List.length_cons,List.length_nil]
    have e1 : bstr (s.data.toList.take k)=s.extract 0 k:=by
      apply ByteArray.ext
      apply Array.ext'
      rw [Lib.extract_data]
      simp
    have e2 : bstr (s.data.toList.drop (k+(0+1)))=s.extract (k+1) s.size:=by
      apply ByteArray.ext
      apply Array.ext'
      have:=ext_drop' s (k+1)
      rw [this]
    rw [e1,e2]
    have HI:=Lib.hid hi
    have hkI : (k : Int)≤(s.size : Int):=by omega
    have hkI1 : (k : Int)+1≤(s.size : Int):=by omega
    have hw : IntKind.i64.wrap ((k : Int)+1)=(k : Int)+1:=by rw [IntKind.wrap_i64];omega
    clear hi hge hro hrl h0 hk e1 e2
    go_enter Tryz.func85,Tryz.ntmps85
    go_wp2_with (first|(go_at_call 124;refine HI.out.mono ?_;rintro e w1 ⟨rfl,rfl⟩))
    go_quiet (fail)
    go_wp2
    go_ret3
    exact ⟨rfl,_,rfl⟩
  · have h1 : i = -1:=by omega
    subst h1
    rw [if_neg h0]
    have HI:=Lib.hid hi
    clear hi hge hro hrl h0
    go_enter Tryz.func85,Tryz.ntmps85
    go_wp2_with (first|(go_at_call 124;refine HI.out.mono ?_;rintro e w1 ⟨rfl,rfl⟩))
    go_ret3
    exact ⟨rfl,0,rfl⟩
theorem str_cut (s : ByteArray) (c : UInt8) (w : World) (hs : s.size≤200000) :
    Calls Tryz.prog 41 #[.string s,.string ⟨#[c]⟩] w fun e w'=>e = .returned (.tuple #[.string (bstr (Lib.cut s.data.toList [c]).1),.string (bstr (Lib.cut s.data.toList [c]).2.1),.bool (Lib.cut s.data.toList [c]).2.2])∧∃ n,w'=w.drewN n:=by
  have h:=cut_in s c w hs
  have H:=Lib.hid h
  clear h
  go_enter Tryz.func41,Tryz.ntmps41
  go_wp2_with (first|(go_at_call 85;refine H.out.mono ?_;rintro e w1 ⟨rfl,n,rfl⟩))
  go_ret3
  exact ⟨rfl,n,rfl⟩
theorem num_any (r : ByteArray) (w : World) (he : Env w) (hs : r.size≤4096) :
    Calls Tryz.prog 262 #[.string r] w (PiecePost (r.size+3) w):=by
  have hcut:=str_cut r 125 w (by omega)
  have hl1:=cut_len' r.data.toList
  have hl2:=cut_len r.data.toList
  have hrl : r.data.toList.length=r.size:=by simp
  rw [hrl] at hl1 hl2
  have HCUT:=Lib.hid hcut
  clear hcut hrl
  generalize Lib.cut r.data.toList [125]=c at *
  obtain ⟨c1,c2,c3⟩:=c
  simp only at hl1 hl2 HCUT
  cases c3 with
  | false =>
    clear hl2
    go_enter Tryz.func262,Tryz.ntmps262
    go_wp2_with (first|(go_at_call 41;refine HCUT.out.mono ?_;rintro e w1 ⟨rfl,n,rfl⟩))
    go_ret2
    exact ⟨[],0,rfl,by omega,by simp,below_drewN (Below.refl _ _) n⟩
  | true =>
    have hl3:=hl2 rfl
    have hp:=fun (w' : World) (he' : Env w')=>sp_of 31 (bstr c1) w' (.inr rfl) he' (by rw [bstr_len];omega) (pu_any31 (bstr c1) w' (by unfold maxLen;rw [bstr_len];omega))
    have HP:=Lib.hid hp
    have hcl : (bstr c1).size=c1.length:=bstr_len c1
    clear hp hl2
    go_enter Tryz.func262,Tryz.ntmps262
    go_wp2_with (first|(go_at_call 41;refine HCUT.out.mono ?_;rintro e w1 ⟨rfl,n,rfl⟩)|(go_at_call 274;refine (HP.out _ (he.on (below_drewN (Below.refl _ _) n))).mono ?_))
    rintro e w2 ⟨v,x,rfl,hv,hx,hb2⟩
    have hb3 : Below w.heap.size w w2:=on_below (below_drewN (Below.refl _ _) n) hb2
    rcases hx with rfl|⟨p,rfl⟩
    · go_wp2
      go_ret2
      have hpost : ∀ (z : Int) (k : Int),k=((c1.length+4 : Nat) : Int)→PiecePost (r.size+3) w (.returned (.tuple #[.string (Utf8.encode z),.int .i64 k])) w2:=by
        intro z k hk
        have hz:=enc_len z
        have hz2 : (Utf8.encode z).data.toList.length=(Utf8.encode z).size:=by simp
        exact ⟨(Utf8.encode z).data.toList,c1.length+4,by rw [hk],by omega,by omega,hb3⟩
      exact hpost _ _ (by omega)
    · go_wp2
      go_ret2
      exact ⟨[],0,rfl,by omega,by simp,hb3⟩
theorem hex_close (m : Nat) : ∀ c∈hex m,c≠125:=by
  intro c hc e
  obtain ⟨d,hd,rfl⟩:=hex_mem m hc
  have:=dig_range d hd
  rw [e] at this
  have h : (125 : UInt8).toNat=125:=rfl
  omega
theorem num_ok (m : Nat) (rest : List UInt8) (w : World) (he : Env w) (h2 : m≤1114111) (hs : rest.length≤100000) :
    Calls Tryz.prog 262 #[.string (bstr (hex m++125::rest))] w fun e w'=>e = .returned (.tuple #[.string (Utf8.encode (m : Int)),.int .i64 (((hex m).length+4 : Nat) : Int)])∧Below w.heap.size w w':=by
  have hlen:=hex_len 5 m (by omega)
  have hsz : (bstr (hex m++125::rest)).size=(hex m).length+rest.length+1:=by rw [bstr_len];simp;omega
  have hcut:=str_cut (bstr (hex m++125::rest)) 125 w (by omega)
  have e0 : Lib.cut (bstr (hex m++125::rest)).data.toList [125]=(hex m,rest,true):=cut_close (hex m) rest (hex_close m)
  rw [e0] at hcut
  have hp:=fun (w' : World)=>sp_ok 31 (bstr (hex m)) m w' (pu_ok31 (bstr (hex m)) m w' rfl (by omega) (by rw [bstr_len];unfold maxLen;omega))
  have HCUT:=Lib.hid hcut
  have HP:=Lib.hid hp
  have hw : IntKind.i32.wrap (m : Int)=(m : Int):=by rw [IntKind.wrap_i32];omega
  have hfin : 3+((hex m).length : Int)+1=(((hex m).length+4 : Nat) : Int):=by omega
  have HFIN:=Lib.hid hfin
  have hbl : (bstr (hex m)).size=(hex m).length:=bstr_len _
  clear hcut e0 hp hsz hfin
  generalize bstr (hex m++125::rest)=t at *
  generalize hex m=x at *
  go_enter Tryz.func262,Tryz.ntmps262
  go_wp2_with (first|(go_at_call 41;refine HCUT.out.mono ?_;rintro e w1 ⟨rfl,n,rfl⟩)|(go_at_call 274;refine (HP.out _).mono ?_;rintro e w2 ⟨rfl,hb2⟩))
  go_ret2
  refine ⟨?_,on_below (below_drewN (Below.refl _ _) n) hb2⟩
  rw [← HFIN.out]
  rfl
theorem trim_cut (l p : List UInt8) : (Lib.hasPrefix l p=true∧Lib.trimPrefix l p=l.drop p.length∧p.length≤l.length)∨(Lib.hasPrefix l p=false∧Lib.trimPrefix l p=l):=by
  by_cases h : Lib.hasPrefix l p=true
  · refine .inl ⟨h,?_,?_⟩
    · unfold Lib.trimPrefix
      rw [if_pos h]
    · have:=Lib.hasPrefix_of_take l p
      rw [h] at this
      simp at this
      omega
  · exact .inr ⟨by simpa using h,by unfold Lib.trimPrefix;rw [if_neg h]⟩
theorem first_any (r : ByteArray) (w : World) (he : Env w) (hs : r.size≤4096) (hne : 1≤r.size) :
    Calls Tryz.prog 232 #[.string r] w (PiecePost r.size w):=by
  have hrl : r.data.toList.length=r.size:=by simp
  have hc1 : ∀ w,Calls Tryz.prog 135 #[.string r,.string ⟨#[92,120]⟩] w fun e w'=>e = .returned (.tuple #[.string (bstr (Lib.trimPrefix r.data.toList [92,120])),.bool (Lib.hasPrefix r.data.toList [92,120])])∧w'=w:=fun w=>Tryz.strings_CutPrefix r ⟨#[92,120]⟩ w
  have hc2 : ∀ w,Calls Tryz.prog 135 #[.string r,.string ⟨#[92,117,123]⟩] w fun e w'=>e = .returned (.tuple #[.string (bstr (Lib.trimPrefix r.data.toList [92,117,123])),.bool (Lib.hasPrefix r.data.toList [92,117,123])])∧w'=w:=fun w=>Tryz.strings_CutPrefix r ⟨#[92,117,123]⟩ w
  have hc3 : ∀ w,Calls Tryz.prog 135 #[.string r,.string ⟨#[92]⟩] w fun e w'=>e = .returned (.tuple #[.string (bstr (Lib.trimPrefix r.data.toList [92])),.bool (Lib.hasPrefix r.data.toList [92])])∧w'=w:=fun w=>Tryz.strings_CutPrefix r ⟨#[92]⟩ w
  have hsame : bstr r.data.toList=r:=rfl
  rcases trim_cut r.data.toList [92,120] with ⟨h1,t1,l1⟩|⟨h1,t1⟩
  · rw [h1,t1] at hc1
    rw [hrl] at l1
    simp only [List.length_cons,List.length_nil] at l1 hc1
    have hd : (r.data.toList.drop 2).length=r.size - 2:=by rw [List.length_drop,hrl]
    have hst:=stray_any (bstr (r.data.toList.drop 2)) w he (by rw [bstr_len];omega)
    rw [bstr_len,hd,show r.size - 2+2=r.size by omega] at hst
    have HC1:=Lib.hid hc1
    have HST:=Lib.hid hst
    clear hc1 hc2 hc3 hst h1 t1 hsame hd
    generalize r.data.toList.drop (0+1+1)=x at *
    go_enter Tryz.func232,Tryz.ntmps232
    go_wp2_with (first|(go_at_call 135;refine (HC1.out _).mono ?_;rintro e w1 ⟨rfl,rfl⟩)|(go_at_call 261;refine HST.out.mono ?_))
    rintro e w2 ⟨l,k,rfl,hk,hl,hb⟩
    go_wp2
    go_ret2
    exact ⟨l,k,rfl,hk,hl,hb⟩
  · rw [h1, t1, hsame] at hc1
    have HC1:=Lib.hid hc1
    clear hc1 h1 t1
    rcases trim_cut r.data.toList [92,117,123] with ⟨h1,t1,l1⟩|⟨h1,t1⟩
    · rw [h1,t1] at hc2
      rw [hrl] at l1
      simp only [List.length_cons,List.length_nil] at l1 hc2
      have hd : (r.data.toList.drop 3).length=r.size - 3:=by rw [List.length_drop,hrl]
      have hst:=num_any (bstr (r.data.toList.drop 3)) w he (by rw [bstr_len];omega)
      rw [bstr_len,hd,show r.size - 3+3=r.size by omega] at hst
      have HC2:=Lib.hid hc2
      have HST:=Lib.hid hst
      clear hc2 hc3 hst h1 t1 hsame hd
      generalize r.data.toList.drop (0+1+1+1)=x at *
      go_enter Tryz.func232,Tryz.ntmps232
      go_wp2_with (first|(go_at_call 135;first|((with_reducible refine (HC1.out _).mono ?_);rintro e w1 ⟨rfl,rfl⟩)|((with_reducible refine (HC2.out _).mono ?_);rintro e w1 ⟨rfl,rfl⟩))|(go_at_call 262;refine HST.out.mono ?_))
      rintro e w2 ⟨l,k,rfl,hk,hl,hb⟩
      go_wp2
      go_ret2
      exact ⟨l,k,rfl,hk,hl,hb⟩
    · rw [h1,t1,hsame] at hc2
      have HC2:=Lib.hid hc2
      clear hc2 h1 t1
      rcases trim_cut r.data.toList [92] with ⟨h1,t1,l1⟩|⟨h1,t1⟩
      · rw [h1,t1] at hc3
        simp only [List.length_cons,List.length_nil] at l1 hc3
        have hd : (r.data.toList.drop 1).length=r.size - 1:=by rw [List.length_drop,hrl]
        have HC3:=Lib.hid hc3
        have hxs : (bstr (r.data.toList.drop 1)).size=r.size - 1:=by rw [bstr_len,hd]
        clear hc3 h1 t1 hsame l1
        by_cases h0 : r.size=1
        · have hx : r.data.toList.drop 1=[]:=List.eq_nil_of_length_eq_zero (by omega)
          have HC4 : Hid (∀ w,Calls Tryz.prog 135 #[.string r,.string ⟨#[92]⟩] w fun e w'=>e = .returned (.tuple #[.string ⟨#[]⟩,.bool true])∧w'=w):=by
            intro w
            have h:=HC3.out w
            rw [show r.data.toList.drop (0+1)=[] from hx] at h
            exact h
          clear hx HC3 hd hxs
          go_enter Tryz.func232,Tryz.ntmps232
          go_wp2_with (first|(go_at_call 135;first|((with_reducible refine (HC1.out _).mono ?_);rintro e w1 ⟨rfl,rfl⟩)|((with_reducible refine (HC2.out _).mono ?_);rintro e w1 ⟨rfl,rfl⟩)|((with_reducible refine (HC4.out _).mono ?_);rintro e w1 ⟨rfl,rfl⟩)))
          go_ret2
          exact ⟨[],0,rfl,by omega,by simp,Below.refl _ _⟩
        · have hne1 : (bstr (r.data.toList.drop 1)).toList.isEmpty=false:=by
            rw [Lib.toList_data]
            cases hx : r.data.toList.drop 1 with
            | nil=>rw [hx] at hd;simp at hd;omega
            | cons a l=>rfl
          have hx1 : (1 : Int)≤((bstr (r.data.toList.drop 1)).size : Int):=by omega
          have HC4 : Hid (∀ w,Calls Tryz.prog 135 #[.string r,.string ⟨#[92]⟩] w fun e w'=>e = .returned (.tuple #[.string (bstr (r.data.toList.drop 1)),.bool true])∧w'=w):=HC3.out
          clear HC3 hd hxs
          generalize bstr (r.data.toList.drop 1)=x at *
          go_enter Tryz.func232,Tryz.ntmps232
          go_wp2_with (first|(go_at_call 135;first|((with_reducible refine (HC1.out _).mono ?_);rintro e w1 ⟨rfl,rfl⟩)|((with_reducible refine (HC2.out _).mono ?_);rintro e w1 ⟨rfl,rfl⟩)|((with_reducible refine (HC4.out _).mono ?_);rintro e w1 ⟨rfl,rfl⟩)))
          go_ret2
          exact ⟨(x.extract 0 1).data.toList,2,rfl,by omega,by rw [Lib.extract_data];simp;omega,Below.refl _ _⟩
      · rw [h1,t1,hsame] at hc3
        have HC3:=Lib.hid hc3
        have hx1 : (1 : Int)≤(r.size : Int):=by omega
        clear hc3 h1 t1 hsame
        go_enter Tryz.func232,Tryz.ntmps232
        go_wp2_with (first|(go_at_call 135;first|((with_reducible refine (HC1.out _).mono ?_);rintro e w1 ⟨rfl,rfl⟩)|((with_reducible refine (HC2.out _).mono ?_);rintro e w1 ⟨rfl,rfl⟩)|((with_reducible refine (HC3.out _).mono ?_);rintro e w1 ⟨rfl,rfl⟩)))
        go_ret2
        exact ⟨(r.extract 0 1).data.toList,1,rfl,by omega,by rw [Lib.extract_data];simp;omega,Below.refl _ _⟩
def strLen : Value→Nat
  | .string s=>s.size
  | _=>0
def TextPost (n : Nat) (w : World) (e : Ending) (w' : World) : Prop :=
  ∃ (l : List UInt8) (b : Bool),e = .returned (.tuple #[.string (bstr l),.bool b])∧l.length≤n∧Below w.heap.size w w'
theorem trim_suf (l p : List UInt8) : (Lib.trimSuffix l p).length≤l.length:=by
  unfold Lib.trimSuffix
  split
  · simp
  · exact Nat.le_refl _
theorem trim_pre (l p : List UInt8) : (Lib.trimPrefix l p).length≤l.length:=by
  unfold Lib.trimPrefix
  split
  · simp
  · exact Nat.le_refl _
theorem untold_any (q : ByteArray) (w : World) (he : Env w) (hs : q.size≤4096) :
    Calls Tryz.prog 186 #[.string q] w (TextPost q.size w):=by
  have hql : q.data.toList.length=q.size:=by simp
  have hc1 : ∀ w,Calls Tryz.prog 135 #[.string q,.string ⟨#[34]⟩] w fun e w'=>e = .returned (.tuple #[.string (bstr (Lib.trimPrefix q.data.toList [34])),.bool (Lib.hasPrefix q.data.toList [34])])∧w=w':=fun w=>(Tryz.strings_CutPrefix q ⟨#[34]⟩ w).mono fun e w' h=>⟨h.1,h.2.symm⟩
  have hl1:=trim_pre q.data.toList [34]
  generalize Lib.trimPrefix q.data.toList [34]=x at *
  generalize Lib.hasPrefix q.data.toList [34]=o at *
  have hc2 : ∀ w,Calls Tryz.prog 231 #[.string (bstr x),.string ⟨#[34]⟩] w fun e w'=>e = .returned (.tuple #[.string (bstr (Lib.trimSuffix x [34])),.bool (Lib.hasSuffix x [34])])∧w=w':=fun w=>(Tryz.strings_CutSuffix (bstr x) ⟨#[34]⟩ w (by rw [bstr_len];omega)).mono fun e w' h=>⟨h.1,h.2.symm⟩
  have hl2:=trim_suf x [34]
  generalize Lib.trimSuffix x [34]=y at *
  generalize Lib.hasSuffix x [34]=c at *
  have hyl : y.length≤q.size:=by omega
  have HC1:=Lib.hid hc1
  have HC2:=Lib.hid hc2
  clear hc1 hc2 hl1 hl2 hql
  have hbm:=bld_made w
  have hz:=b_zero w
  have hb0 : Below w.heap.size w (w.alloc (.cells #[.pointer none,.slice none 0 0] 81)):=(Below.refl _ _).alloc (Nat.le_refl _) _
  have HZ:=Lib.hid hz
  have HB0:=Lib.hid hb0
  clear hz hb0
  cases o with
  | false =>
    go_enter Tryz.func186,Tryz.ntmps186
    go_wp2_with (first|(go_at_call 135;refine (HC1.out _).mono ?_;rintro e w1 ⟨rfl,rfl⟩)|(go_at_call 231;refine (HC2.out _).mono ?_;rintro e w1 ⟨rfl,rfl⟩))
    go_ret2
    exact ⟨[],false,rfl,by simp,Below.refl _ _⟩
  | true =>
    cases c with
    | false =>
      go_enter Tryz.func186,Tryz.ntmps186
      go_wp2_with (first|(go_at_call 135;refine (HC1.out _).mono ?_;rintro e w1 ⟨rfl,rfl⟩)|(go_at_call 231;refine (HC2.out _).mono ?_;rintro e w1 ⟨rfl,rfl⟩))
      go_ret2
      exact ⟨[],false,rfl,by simp,Below.refl _ _⟩
    | true =>
      go_enter Tryz.func186,Tryz.ntmps186
      go_wp2_with (first|(go_at_call 135;refine (HC1.out _).mono ?_;rintro e w1 ⟨rfl,rfl⟩)|(go_at_call 231;refine (HC2.out _).mono ?_;rintro e w1 ⟨rfl,rfl⟩))
      clear hbm
      go_loopw [4,8,9] (fun v p k wr=>∃ (t : ByteArray) (acc : List UInt8),v = .string t∧Bld w.heap.size w.heap.size acc wr∧acc.length+t.size≤q.size∧Below w.heap.size w wr) (fun v _ _ _=>strLen v)
      case atStart=>exact ⟨bstr y,[],rfl,HZ.out,by rw [bstr_len];simpa using hyl,HB0.out⟩
      case round =>
        obtain ⟨t,acc,rfl,hbl,hl,hb⟩:=hrel
        have heW:=he.on hb
        by_cases hemp : t.size=0
        · have : t=⟨#[]⟩:=by
            apply ByteArray.ext
            exact Array.eq_empty_of_size_eq_zero hemp
          subst this
          have htx:=b_text w.heap.size w.heap.size acc wr hbl hb.size
          have HTX:=Lib.hid htx
          clear htx hemp
          go_wp2_with (first|(go_at_call 40;refine HTX.out.mono ?_;rintro e w5 ⟨rfl,hb5⟩))
          go_ret2
          exact ⟨acc,true,rfl,by omega,hb.trans hb5⟩
        · have hne : t.toList.isEmpty=false:=by
            rw [Lib.toList_data]
            cases h : t.data.toList with
            | nil=>exfalso;apply hemp;have:=congrArg List.length h;simpa using this
            | cons x l=>rfl
          have hfi:=first_any t wr heW (by omega) (by omega)
          have HFI:=Lib.hid hfi
          clear hfi
          go_wp2_with (go_at_call 232;refine HFI.out.mono ?_)
          rintro e w2 ⟨l,k,rfl,hk,hll,hb2⟩
          by_cases h0 : k=0
          · subst h0
            go_wp2
            go_ret2
            exact ⟨[],false,rfl,by simp,on_below hb hb2⟩
          · have hk0 : ((k : Int) == 0)=false:=by simp;omega
            have hbl2:=bld_below (B':=0) hbl hb2
            have hb3:=on_below hb hb2
            have hwr:=b_write w.heap.size w.heap.size acc (bstr l) w2 hbl2 (by rw [bstr_len];omega) hb3.size
            have HWR:=Lib.hid hwr
            have hkI : (k : Int)≤(t.size : Int):=by omega
            clear hwr
            go_wp2_with (first|(go_at_call 36;refine HWR.out.mono ?_;rintro e w4 ⟨rfl,hon4⟩))
            have hb4 : Below w.heap.size w w4:=hb3.trans hon4.2.1
            go_roundw
            case rel=>exact ⟨_,acc++l,rfl,hon4.1,by simp;omega,hb4⟩
            case measure=>simp [strLen];omega
def UnqPost (q : ByteArray) (w : World) (e : Ending) (w' : World) : Prop :=
  ∃ (l : List UInt8) (b : Bool),e = .returned (.tuple #[.string (bstr l),.bool b])∧l.length≤q.size∧(b=true→quote l=q.data.toList)∧(b=false→l=[])∧Below w.heap.size w w'
theorem unq_any (q : ByteArray) (w : World) (he : Env w) (hs : q.size≤4096) :
    Calls Tryz.prog 127 #[.string q] w (UnqPost q w):=by
  have hu:=untold_any q w he hs
  have HU:=Lib.hid hu
  clear hu
  go_enter Tryz.func127,Tryz.ntmps127
  go_wp2_with (go_at_call 186;refine HU.out.mono ?_)
  rintro e w1 ⟨l,b,rfl,hl,hb1⟩
  cases b with
  | false =>
    go_wp2
    go_ret2
    exact ⟨[],false,rfl,by simp,(fun h=>by cases h),fun _=>rfl,hb1⟩
  | true =>
    have hqt:=q_quote (bstr l) w1 (by rw [bstr_len];omega) (he.on hb1)
    rw [bstr_list] at hqt
    have HQT:=Lib.hid hqt
    clear hqt
    by_cases heq : quote l=q.data.toList
    · have hqq : bstr (quote l)=q:=by rw [heq]
      rw [hqq] at HQT
      have HE:=Lib.hid heq
      clear heq hqq
      go_wp2_with (first|(go_at_call 38;refine HQT.out.mono ?_;rintro e w2 ⟨rfl,hb2⟩))
      go_ret2
      exact ⟨l,true,rfl,hl,fun _=>HE.out,(fun h=>by cases h),on_below hb1 hb2⟩
    · have hq1 : (quote l == q.toList)=false:=by rw [Lib.toList_data];simpa using heq
      have hq2 : (!(quote l == q.toList))=true:=by rw [hq1];rfl
      clear heq
      go_wp2_with (first|(go_at_call 38;refine HQT.out.mono ?_;rintro e w2 ⟨rfl,hb2⟩))
      go_ret2
      exact ⟨[],false,rfl,by simp,(fun h=>by cases h),fun _=>rfl,on_below hb1 hb2⟩
end Go.Proofs.YtmimfkhkilijcaaGreatDoor
namespace PQuote
open Go PSign PHex
def enc (z : Int) : List UInt8:=if z<0 then [UInt8.ofNat (-1 - z).toNat] else (Utf8.encode z).data.toList
theorem byt_of {l : List UInt8} {k x : Nat} (h : x=byt l k) : UInt8.ofNat x=l.getD k 0:=by
  rw [h]
  unfold byt
  simp
theorem take1 (l : List UInt8) (h : 1≤l.length) : l.take 1=[l.getD 0 0]:=by
  match l,h with
  | a::r,_=>rfl
theorem take2 (l : List UInt8) (h : 2≤l.length) : l.take 2=[l.getD 0 0,l.getD 1 0]:=by
  match l,h with
  | a::b::r,_=>rfl
theorem take3 (l : List UInt8) (h : 3≤l.length) : l.take 3=[l.getD 0 0,l.getD 1 0,l.getD 2 0]:=by
  match l,h with
  | a::b::c::r,_=>rfl
theorem take4 (l : List UInt8) (h : 4≤l.length) : l.take 4=[l.getD 0 0,l.getD 1 0,l.getD 2 0,l.getD 3 0]:=by
  match l,h with
  | a::b::c::d::r,_=>rfl
theorem valid_of (n : Nat) (h1 : n≤1114111) (h2 : ¬ (55296≤n∧n≤57343)) : Utf8.valid (n : Int)=true:=by
  unfold Utf8.valid
  simp
  omega
theorem fit_cases (n least m : Nat) (hm : m≠0) : (fit n least m).2=0∨(fit n least m=(n,m)∧least≤n∧n≤1114111∧¬ (55296≤n∧n≤57343)):=by
  unfold fit
  split
  · exact .inl rfl
  · exact .inr ⟨rfl,by omega,by omega,by omega⟩
theorem enc_first (l : List UInt8) (hne : l≠[]) (h : (first l).2≠0) : (Utf8.encode ((first l).1 : Int)).data.toList=l.take (first l).2:=by
  have hl : 1≤l.length:=List.length_pos_iff.2 hne
  unfold first at h ⊢
  by_cases c1 : byt l 0<128
  · rw [if_pos c1]
    have hv:=valid_of (byt l 0) (by omega) (by omega)
    unfold Utf8.encode
    simp only [hv,if_true,Int.toNat_natCast]
    rw [if_pos (by omega),take1 l hl,byt_of rfl]
  · rw [if_neg c1] at h ⊢
    by_cases c2 : 192≤byt l 0∧byt l 0<224
    · rw [if_pos c2] at h ⊢
      by_cases d : con l 1
      · rw [if_pos d] at h ⊢
        obtain ⟨hk,h1,h2⟩:=d
        rcases fit_cases ((byt l 0 - 192)*64+(byt l 1 - 128)) 128 2 (by decide) with h0|⟨he,h3,h4,h5⟩
        · exact absurd h0 h
        · rw [he]
          have hv:=valid_of _ h4 h5
          have hn : (byt l 0 - 192)*64+(byt l 1 - 128)≤2047:=by omega
          unfold Utf8.encode
          simp only [hv,if_true,Int.toNat_natCast]
          rw [if_neg (by omega),if_pos (by omega),take2 l (by omega),byt_of (l:=l) (k:=0) (by omega),byt_of (l:=l) (k:=1) (by omega)]
      · rw [if_neg d] at h;exact absurd rfl h
    · rw [if_neg c2] at h ⊢
      by_cases c3 : 224≤byt l 0∧byt l 0<240
      · rw [if_pos c3] at h ⊢
        by_cases d : con l 1∧con l 2
        · rw [if_pos d] at h ⊢
          obtain ⟨⟨_,h1,h2⟩,⟨hk,h3,h4⟩⟩:=d
          rcases fit_cases (((byt l 0 - 224)*64+(byt l 1 - 128))*64+(byt l 2 - 128)) 2048 3 (by decide) with h0|⟨he,h5,h6,h7⟩
          · exact absurd h0 h
          · rw [he]
            have hv:=valid_of _ h6 h7
            have hn : ((byt l 0 - 224)*64+(byt l 1 - 128))*64+(byt l 2 - 128)≤65535:=by omega
            unfold Utf8.encode
            simp only [hv,if_true,Int.toNat_natCast]
            rw [if_neg (by omega),if_neg (by omega),if_pos (by omega),take3 l (by omega),byt_of (l:=l) (k:=0) (by omega),byt_of (l:=l) (k:=1) (by omega),byt_of (l:=l) (k:=2) (by omega)]
        · rw [if_neg d] at h;exact absurd rfl h
      · rw [if_neg c3] at h ⊢
        by_cases c4 : 240≤byt l 0∧byt l 0<248
        · rw [if_pos c4] at h ⊢
          by_cases d : con l 1∧con l 2∧con l 3
          · rw [if_pos d] at h ⊢
            obtain ⟨⟨_,h1,h2⟩,⟨_,h3,h4⟩,⟨hk,h5,h6⟩⟩:=d
            rcases fit_cases ((((byt l 0 - 240)*64+(byt l 1 - 128))*64+(byt l 2 - 128))*64+(byt l 3 - 128)) 65536 4 (by decide) with h0|⟨he,h7,h8,h9⟩
            · exact absurd h0 h
            · rw [he]
              have hv:=valid_of _ h8 h9
              unfold Utf8.encode
              simp only [hv,if_true,Int.toNat_natCast]
              rw [if_neg (by omega),if_neg (by omega),if_neg (by omega),take4 l (by omega),byt_of (l:=l) (k:=0) (by omega),byt_of (l:=l) (k:=1) (by omega),byt_of (l:=l) (k:=2) (by omega),byt_of (l:=l) (k:=3) (by omega)]
          · rw [if_neg d] at h;exact absurd rfl h
        · rw [if_neg c4] at h;exact absurd rfl h
theorem enc_sg (l : List UInt8) (hne : l≠[]) : enc (sg l)=l.take (stp l):=by
  have hl : 1≤l.length:=List.length_pos_iff.2 hne
  unfold enc stp
  rw [sg_of]
  by_cases h : (first l).2=0
  · rw [if_pos h,if_pos h,if_pos (by omega),take1 l hl,byt_of (l:=l) (k:=0) (by omega)]
  · rw [if_neg h,if_neg h,if_neg (by omega),enc_first l hne h]
theorem sg_stray (l : List UInt8) (h : sg l<0) : 128≤(-1 - sg l).toNat∧(-1 - sg l).toNat≤255:=by
  have hb:=byt_lt l 0
  rw [sg_of] at h ⊢
  by_cases h0 : (first l).2=0
  · rw [if_pos h0]
    have h128 : ¬ byt l 0<128:=by
      intro hc
      unfold first at h0
      rw [if_pos hc] at h0
      cases h0
    omega
  · rw [if_neg h0] at h
    omega
end PQuote
namespace Go.Proofs.YtmimfkhkilijcaaGreatDoor
open Go.ChangeShapes Go.WideShapes Go.ChangeAt Go.RowKit
open PSign PHex PQuote
theorem cut_yes (l p x : List UInt8) (h : l=p++x) (w : World) : Calls Tryz.prog 135 #[.string (bstr l),.string (bstr p)] w fun e w'=>e = .returned (.tuple #[.string (bstr x),.bool true])∧w=w':=by
  have hp : Lib.hasPrefix l p=true:=by
    subst h
    have:=Lib.hasPrefix_of_take (p++x) p
    rw [← this]
    simp
  have ht : Lib.trimPrefix l p=x:=by
    unfold Lib.trimPrefix
    rw [if_pos hp,h,List.drop_left]
  have h2:=Tryz.strings_CutPrefix (bstr l) (bstr p) w
  rw [bstr_list,bstr_list,hp,ht] at h2
  exact h2.mono fun e w' h=>⟨h.1,h.2.symm⟩
theorem cut_no (l p : List UInt8) (h : Lib.hasPrefix l p=false) (w : World) : Calls Tryz.prog 135 #[.string (bstr l),.string (bstr p)] w fun e w'=>e = .returned (.tuple #[.string (bstr l),.bool false])∧w=w':=by
  have ht : Lib.trimPrefix l p=l:=by
    unfold Lib.trimPrefix
    rw [if_neg (by rw [h];decide)]
  have h2:=Tryz.strings_CutPrefix (bstr l) (bstr p) w
  rw [bstr_list,bstr_list,h,ht] at h2
  exact h2.mono fun e w' h=>⟨h.1,h.2.symm⟩
theorem ext_one (a : UInt8) (r : List UInt8) : (bstr (a::r)).extract 0 1=bstr [a]:=by
  apply ByteArray.ext
  apply Array.ext'
  rw [Lib.extract_data]
  rfl
def FirstPost (z : Int) (w : World) (e : Ending) (w' : World) : Prop :=
  e = .returned (.tuple #[.string (bstr (enc z)),.int .i64 ((told z).length : Nat)])∧Below w.heap.size w w'
theorem first_ok (z : Int) (rest : List UInt8) (w : World) (he : Env w) (hst : z<0→128≤(-1 - z).toNat∧(-1 - z).toNat≤255) (h2 : z≤1114111) (hs : rest.length≤100000) :
    Calls Tryz.prog 232 #[.string (bstr (told z++rest))] w (FirstPost z w):=by
  by_cases hneg : z<0
  · obtain ⟨m1,m2⟩:=hst hneg
    have ht : told z=[92,120]++hex (-1 - z).toNat:=by unfold told;rw [if_pos hneg]
    have hen : enc z=[UInt8.ofNat (-1 - z).toNat]:=by unfold enc;rw [if_pos hneg]
    generalize (-1 - z).toNat=m at *
    have hlen : (hex m).length=2:=by rw [hex_high (by omega),hex_low (by omega)];rfl
    have hpost : ∀ e w',e = .returned (.tuple #[.string (bstr [UInt8.ofNat m]),.int .i64 4])→Below w.heap.size w w'→FirstPost z w e w':=by
      intro e w' h1 hb
      refine ⟨?_,hb⟩
      rw [h1,hen,ht,List.length_append,hlen]
      rfl
    have c1:=fun w=>cut_yes (told z++rest) [92,120] (hex m++rest) (by rw [ht,List.append_assoc]) w
    have s1:=fun w=>stray_ok m rest w m1 m2 hs
    have C1:=Lib.hid c1
    have S1:=Lib.hid s1
    have HP:=Lib.hid hpost
    clear c1 s1 hpost ht hen hlen hst
    generalize bstr (told z++rest)=t at *
    generalize bstr (hex m++rest)=u at *
    go_enter Tryz.func232,Tryz.ntmps232
    go_wp2_with (first|(go_at_call 135;refine (C1.out _).mono ?_;rintro e w1 ⟨rfl,rfl⟩)|(go_at_call 261;refine (S1.out _).mono ?_;rintro e w2 ⟨rfl,hb⟩))
    go_ret2
    exact HP.out _ _ rfl hb
  · obtain ⟨m,rfl⟩:=Int.eq_ofNat_of_zero_le (by omega : 0≤z)
    have hen : enc (m : Int)=(Utf8.encode (m : Int)).data.toList:=by unfold enc;rw [if_neg hneg]
    by_cases hout : (m : Int)<32∨126<(m : Int)
    · have ht : told (m : Int)=[92,117,123]++hex m++[125]:=by unfold told;rw [if_neg hneg,if_pos hout];rfl
      have hpost : ∀ e w',e = .returned (.tuple #[.string (Utf8.encode (m : Int)),.int .i64 (((hex m).length+4 : Nat) : Int)])→Below w.heap.size w w'→FirstPost (m : Int) w e w':=by
        intro e w' h1 hb
        refine ⟨?_,hb⟩
        have hl : (told (m : Int)).length=(hex m).length+4:=by rw [ht];simp
        rw [h1,hen,hl]
      have hsp : told (m : Int)++rest=[92,117,123]++(hex m++125::rest):=by rw [ht];simp
      have c1:=fun w=>cut_no (told (m : Int)++rest) [92,120] (by rw [hsp];rfl) w
      have c2:=fun w=>cut_yes (told (m : Int)++rest) [92,117,123] (hex m++125::rest) hsp w
      have s1:=num_ok m rest w he (by omega) hs
      have C1:=Lib.hid c1
      have C2:=Lib.hid c2
      have S1:=Lib.hid s1
      have HP:=Lib.hid hpost
      clear c1 c2 s1 hpost ht hen hst hsp
      generalize bstr (told (m : Int)++rest)=t at *
      generalize bstr (hex m++125::rest)=u at *
      generalize ((hex m).length+4 : Nat)=k at *
      generalize Utf8.encode (m : Int)=x at *
      go_enter Tryz.func232,Tryz.ntmps232
      go_wp2_with (first|(go_at_call 135;first|((with_reducible refine (C1.out _).mono ?_);rintro e w1 ⟨rfl,rfl⟩)|((with_reducible refine (C2.out _).mono ?_);rintro e w1 ⟨rfl,rfl⟩))|(go_at_call 262;refine S1.out.mono ?_;rintro e w2 ⟨rfl,hb⟩))
      go_ret2
      exact HP.out _ _ rfl hb
    · have henc:=enc_low m (by omega)
      rw [henc,bstr_list] at hen
      by_cases h34 : (m : Int)=34∨(m : Int)=92
      · have ht : told (m : Int)=[92,UInt8.ofNat m]:=by unfold told;rw [if_neg hneg,if_neg hout,if_pos h34];rfl
        have hpost : ∀ e w',e = .returned (.tuple #[.string (bstr [UInt8.ofNat m]),.int .i64 2])→Below w.heap.size w w'→FirstPost (m : Int) w e w':=by
          intro e w' h1 hb
          refine ⟨?_,hb⟩
          rw [h1,hen,ht]
          rfl
        have hsp : told (m : Int)++rest=[92]++(UInt8.ofNat m::rest):=by rw [ht];rfl
        have hpre : ∀ p : List UInt8,p=[92,120]∨p=[92,117,123]→Lib.hasPrefix (told (m : Int)++rest) p=false:=by
          intro p hp
          rw [hsp]
          rcases (by omega : m=34∨m=92) with rfl|rfl
          · rcases hp with rfl|rfl <;> rfl
          · rcases hp with rfl|rfl <;> rfl
        have c1:=fun w=>cut_no (told (m : Int)++rest) [92,120] (hpre _ (.inl rfl)) w
        have c2:=fun w=>cut_no (told (m : Int)++rest) [92,117,123] (hpre _ (.inr rfl)) w
        have c3:=fun w=>cut_yes (told (m : Int)++rest) [92] (UInt8.ofNat m::rest) hsp w
        have hx1:=ext_one (UInt8.ofNat m) rest
        have hsz : (bstr (UInt8.ofNat m::rest)).size=rest.length+1:=by rw [bstr_len];rfl
        have hszI : (1 : Int)≤((bstr (UInt8.ofNat m::rest)).size : Int):=by omega
        have hne1 : (bstr (UInt8.ofNat m::rest)).toList.isEmpty=false:=by rw [Lib.toList_data];rfl
        have C1:=Lib.hid c1
        have C2:=Lib.hid c2
        have C3:=Lib.hid c3
        have HP:=Lib.hid hpost
        clear c1 c2 c3 hpost ht hen hst hsp hpre hsz
        generalize bstr (told (m : Int)++rest)=t at *
        generalize bstr (UInt8.ofNat m::rest)=u at *
        generalize bstr [UInt8.ofNat m]=x at *
        go_enter Tryz.func232,Tryz.ntmps232
        go_wp2_with (first|(go_at_call 135;first|((with_reducible refine (C1.out _).mono ?_);rintro e w1 ⟨rfl,rfl⟩)|((with_reducible refine (C2.out _).mono ?_);rintro e w1 ⟨rfl,rfl⟩)|((with_reducible refine (C3.out _).mono ?_);rintro e w1 ⟨rfl,rfl⟩)))
        go_ret2
        exact HP.out _ _ rfl (Below.refl _ _)
      · have ht : told (m : Int)=[UInt8.ofNat m]:=by unfold told;rw [if_neg hneg,if_neg hout,if_neg h34];rfl
        have hpost : ∀ e w',e = .returned (.tuple #[.string (bstr [UInt8.ofNat m]),.int .i64 1])→Below w.heap.size w w'→FirstPost (m : Int) w e w':=by
          intro e w' h1 hb
          refine ⟨?_,hb⟩
          rw [h1,hen,ht]
          rfl
        have hsp : told (m : Int)++rest=UInt8.ofNat m::rest:=by rw [ht];rfl
        have hm92 : ((92 : UInt8) == UInt8.ofNat m)=false:=by
          rw [beq_eq_false_iff_ne]
          intro e
          have:=congrArg UInt8.toNat e
          simp at this
          omega
        have hpre : ∀ p : List UInt8,Lib.hasPrefix (told (m : Int)++rest) (92::p)=false:=by
          intro p
          rw [hsp]
          show ((92 : UInt8) == UInt8.ofNat m && p.isPrefixOf rest)=false
          rw [hm92]
          rfl
        have c1:=fun w=>cut_no (told (m : Int)++rest) [92,120] (hpre _) w
        have c2:=fun w=>cut_no (told (m : Int)++rest) [92,117,123] (hpre _) w
        have c3:=fun w=>cut_no (told (m : Int)++rest) [92] (hpre _) w
        have hx1:=ext_one (UInt8.ofNat m) rest
        rw [← hsp] at hx1
        have hsz : (bstr (told (m : Int)++rest)).size=rest.length+1:=by rw [bstr_len,hsp];rfl
        have hszI : (1 : Int)≤((bstr (told (m : Int)++rest)).size : Int):=by omega
        have C1:=Lib.hid c1
        have C2:=Lib.hid c2
        have C3:=Lib.hid c3
        have HP:=Lib.hid hpost
        clear c1 c2 c3 hpost ht hen hst hsp hpre hsz hm92
        generalize bstr (told (m : Int)++rest)=t at *
        generalize bstr [UInt8.ofNat m]=x at *
        go_enter Tryz.func232,Tryz.ntmps232
        go_wp2_with (first|(go_at_call 135;first|((with_reducible refine (C1.out _).mono ?_);rintro e w1 ⟨rfl,rfl⟩)|((with_reducible refine (C2.out _).mono ?_);rintro e w1 ⟨rfl,rfl⟩)|((with_reducible refine (C3.out _).mono ?_);rintro e w1 ⟨rfl,rfl⟩)))
        go_ret2
        exact HP.out _ _ rfl (Below.refl _ _)
theorem told_pos (z : Int) : 1≤(told z).length:=by
  unfold told
  split
  · simp
  · split
    · simp
    · split <;> simp
theorem suf_yes (x p : List UInt8) (w : World) (h : (x++p).length≤100000) : Calls Tryz.prog 231 #[.string (bstr (x++p)),.string (bstr p)] w fun e w'=>e = .returned (.tuple #[.string (bstr x),.bool true])∧w=w':=by
  have hp : Lib.hasSuffix (x++p) p=true:=by
    unfold Lib.hasSuffix
    rw [List.isSuffixOf_iff_suffix]
    exact ⟨x,rfl⟩
  have ht : Lib.trimSuffix (x++p) p=x:=by
    unfold Lib.trimSuffix
    rw [if_pos hp,List.length_append,Nat.add_sub_cancel,List.take_left]
  have h2:=Tryz.strings_CutSuffix (bstr (x++p)) (bstr p) w (by rw [bstr_len];omega)
  rw [bstr_list,bstr_list,hp,ht] at h2
  exact h2.mono fun e w' h=>⟨h.1,h.2.symm⟩
theorem ext_rest (a r : List UInt8) (n : Nat) (hn : n=(bstr (a++r)).size) : (bstr (a++r)).extract a.length n=bstr r:=by
  apply ByteArray.ext
  apply Array.ext'
  rw [Lib.extract_data]
  show List.take (n - a.length) (List.drop a.length (a++r))=r
  rw [List.drop_left,List.take_of_length_le]
  rw [hn,bstr_len,List.length_append]
  omega
theorem drop_ne' {l : List UInt8} {pos : Nat} (h : pos<l.length) : l.drop pos≠[]:=by
  intro e
  have:=congrArg List.length e
  rw [List.length_drop] at this
  simp at this
  omega
theorem untold_ok (l : List UInt8) (w : World) (he : Env w) (hs : l.length≤4096) :
    Calls Tryz.prog 186 #[.string (bstr (quote l))] w fun e w'=>e = .returned (.tuple #[.string (bstr l),.bool true])∧Below w.heap.size w w':=by
  have hlen : (toldAll (signs l)).length≤40960:=by
    have h1:=toldAll_len (signs l) (signs_range l)
    have h2:=signs_len l
    omega
  have hc1:=fun w=>cut_yes (quote l) [34] (toldAll (signs l)++[34]) rfl w
  have hc2:=fun w=>suf_yes (toldAll (signs l)) [34] w (by rw [List.length_append];simp;omega)
  have HC1:=Lib.hid hc1
  have HC2:=Lib.hid hc2
  have HLEN:=Lib.hid hlen
  have hbm:=bld_made w
  have hz:=b_zero w
  have hb0 : Below w.heap.size w (w.alloc (.cells #[.pointer none,.slice none 0 0] 81)):=(Below.refl _ _).alloc (Nat.le_refl _) _
  have HZ:=Lib.hid hz
  have HB0:=Lib.hid hb0
  clear hz hb0 hc1 hc2 hlen
  generalize bstr (quote l)=q at *
  generalize bstr (toldAll (signs l)++[34])=q1 at *
  obtain ⟨q2,hq2⟩ : ∃ q2,bstr (toldAll (signs l))=q2:=⟨_,rfl⟩
  have HC3 : Hid (∀ w,Calls Tryz.prog 231 #[.string q1,.string (bstr [34])] w fun e w'=>e = .returned (.tuple #[.string q2,.bool true])∧w=w'):=by
    intro w
    rw [← hq2]
    exact HC2.out w
  have HQ2:=Lib.hid hq2
  clear HC2 hq2
  go_enter Tryz.func186,Tryz.ntmps186
  go_wp2_with (first|(go_at_call 135;refine (HC1.out _).mono ?_;rintro e w1 ⟨rfl,rfl⟩)|(go_at_call 231;refine (HC3.out _).mono ?_;rintro e w1 ⟨rfl,rfl⟩))
  clear hbm
  go_loopw [4,8,9] (fun v p k wr=>∃ (t : ByteArray) (pos : Nat),v = .string t∧Hid (t=bstr (toldAll (signs (l.drop pos))))∧pos≤l.length∧Bld w.heap.size w.heap.size (l.take pos) wr∧Below w.heap.size w wr) (fun v _ _ _=>strLen v)
  case atStart=>exact ⟨q2,0,rfl,HQ2.out.symm,Nat.zero_le _,HZ.out,HB0.out⟩
  case round =>
    obtain ⟨t,pos,rfl,HT,hp,hbl,hb⟩:=hrel
    have heW:=he.on hb
    by_cases hlt : pos<l.length
    · have hne:=drop_ne' hlt
      have hcons:=signs_cons (l.drop pos) hne
      rw [List.drop_drop] at hcons
      have henc:=enc_sg (l.drop pos) hne
      have hstr:=sg_stray (l.drop pos)
      have hrg:=sg_range (l.drop pos)
      have hst:=stp_le (l.drop pos) hne
      have hta : toldAll (signs (l.drop pos))=told (sg (l.drop pos))++toldAll (signs (l.drop (pos+stp (l.drop pos)))):=by
        rw [hcons]
        unfold toldAll
        rw [List.flatMap_cons]
      have htake : l.take (pos+stp (l.drop pos))=l.take pos++enc (sg (l.drop pos)):=by rw [henc,List.take_add]
      rw [List.length_drop] at hst
      have hrl : (toldAll (signs (l.drop (pos+stp (l.drop pos))))).length≤40960:=by
        have h1:=toldAll_len (signs (l.drop (pos+stp (l.drop pos)))) (signs_range _)
        have h2:=signs_len (l.drop (pos+stp (l.drop pos)))
        rw [List.length_drop] at h2
        omega
      have HTT:=HT.out
      rw [hta] at HTT
      have hpt:=told_pos (sg (l.drop pos))
      have hel : (enc (sg (l.drop pos))).length≤4096:=by rw [henc];rw [List.length_take,List.length_drop];omega
      clear henc hcons hta hne HT
      generalize sg (l.drop pos)=z at *
      generalize stp (l.drop pos)=st at *
      have hfi:=fun w' (h : Env w')=>first_ok z (toldAll (signs (l.drop (pos+st)))) w' h hstr hrg.2 (by omega)
      have hex:=ext_rest (told z) (toldAll (signs (l.drop (pos+st)))) _ rfl
      have hsz : (bstr (told z++toldAll (signs (l.drop (pos+st))))).size=(told z).length+(toldAll (signs (l.drop (pos+st)))).length:=by rw [bstr_len,List.length_append]
      have hne : (bstr (told z++toldAll (signs (l.drop (pos+st))))).toList.isEmpty=false:=by
        rw [Lib.toList_data]
        cases h : told z with
        | nil=>rw [h] at hpt;simp at hpt
        | cons a b=>rfl
      rw [← HTT] at hfi hex hsz hne
      have HFI:=Lib.hid hfi
      have HEX:=Lib.hid hex
      have HTK:=Lib.hid htake
      have hk0 : (((told z).length : Int) == 0)=false:=by simp;intro e;rw [e] at hpt;simp at hpt
      have hkI : ((told z).length : Int)≤(t.size : Int):=by omega
      have hwr:=fun w' (h : Bld w.heap.size w.heap.size (l.take pos) w') (hB : w.heap.size≤w'.heap.size)=>b_write w.heap.size w.heap.size (l.take pos) (bstr (enc z)) w' h (by rw [bstr_len,List.length_take];omega) hB
      have HWR:=Lib.hid hwr
      have HSZ:=Lib.hid hsz
      clear hfi hex htake hwr HTT hstr hrg hsz
      go_wp2_with (go_at_call 232;refine (HFI.out _ heW).mono ?_)
      rintro e w2 ⟨rfl,hb2⟩
      have hb3:=on_below hb hb2
      go_wp2_with (first|(go_at_call 36;refine (HWR.out _ (bld_below (B':=0) hbl hb2) hb3.size).mono ?_;rintro e w4 ⟨rfl,hon4⟩))
      have hb4 : Below w.heap.size w w4:=hb3.trans hon4.2.1
      go_roundw
      case rel=>exact ⟨_,pos+st,rfl,HEX.out,by omega,(by have:=hon4.1;rw [← HTK.out] at this;exact this),hb4⟩
      case measure=>rw [HEX.out];simp only [strLen];rw [bstr_len,HSZ.out];omega
    · have hd : l.drop pos=[]:=List.drop_eq_nil_of_le (by omega)
      have ht0 : t=⟨#[]⟩:=by rw [HT.out,hd,signs_nil];rfl
      have hlt' : l.take pos=l:=List.take_of_length_le (by omega)
      rw [hlt'] at hbl
      subst ht0
      clear HT hd hlt'
      have htx:=b_text w.heap.size w.heap.size l wr hbl hb.size
      have HTX:=Lib.hid htx
      clear htx
      go_wp2_with (first|(go_at_call 40;refine HTX.out.mono ?_;rintro e w5 ⟨rfl,hb5⟩))
      go_ret2
      exact ⟨rfl,hb.trans hb5⟩
theorem unq_ok (l : List UInt8) (w : World) (he : Env w) (hs : l.length≤4096) :
    Calls Tryz.prog 127 #[.string (bstr (quote l))] w fun e w'=>e = .returned (.tuple #[.string (bstr l),.bool true])∧Below w.heap.size w w':=by
  have hu:=untold_ok l w he hs
  have hq:=fun w' (h : Env w')=>q_quote (bstr l) w' (by rw [bstr_len];omega) h
  have HU:=Lib.hid hu
  have HQ:=Lib.hid hq
  clear hu hq
  generalize bstr (quote l)=q at *
  go_enter Tryz.func127,Tryz.ntmps127
  go_wp2_with (first|(go_at_call 186;refine HU.out.mono ?_;rintro e w1 ⟨rfl,hb1⟩)|(go_at_call 38;refine (HQ.out _ (he.on hb1)).mono ?_;rintro e w2 ⟨rfl,hb2⟩))
  go_ret2
  exact ⟨rfl,on_below hb1 hb2⟩
end Go.Proofs.YtmimfkhkilijcaaGreatDoor
