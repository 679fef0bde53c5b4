/- QParse: what is reached of them. -/
import Derived.Test.YtmimfkhkilijcaaGreatDoorWq03
import Derived.Test.YtmimfkhkilijcaaGreatDoorWq04
set_option linter.unusedVariables false
set_option linter.unusedSimpArgs false
set_option maxRecDepth 100000
set_option maxHeartbeats 8000000
namespace Go.Proofs.YtmimfkhkilijcaaGreatDoor
open Go.ChangeShapes Go.WideShapes Go.ChangeAt Go.RowKit
open PHex
theorem list_ne (s : ByteArray) (m : Nat) (hs : s.data.toList=hex m) : s.toList.isEmpty=false:=by
  rw [Lib.toList_data,hs]
  have:=hex_pos m
  cases h : hex m with
  | nil=>rw [h] at this;simp at this
  | cons a l=>rfl
theorem foldl_ge : ∀ (l : List UInt8) (a : Nat),a≤l.foldl (fun a c=>a*16+val c) a
  | [],a=>Nat.le_refl _
  | c::l,a=>Nat.le_trans (by omega) (foldl_ge l (a*16+val c))
theorem num_take_le (l : List UInt8) (k : Nat) : num (l.take k)≤num l:=by
  have h : num l=(l.drop k).foldl (fun a c=>a*16+val c) (num (l.take k)):=by
    unfold num
    rw [← List.foldl_append,List.take_append_drop]
  rw [h]
  exact foldl_ge _ _
theorem dig_case (d : Nat) (hd : d<16) : ((dig d).toNat=48+d∧48+d≤57∧d≤9)∨((dig d).toNat=87+d∧10≤d∧97≤87+d∧bits .or .u8 ((87+d : Nat) : Int) 32=((87+d : Nat) : Int)):=by
  have h : ∀ d,d<16→((dig d).toNat=48+d∧48+d≤57∧d≤9)∨((dig d).toNat=87+d∧10≤d∧97≤87+d∧bits .or .u8 ((87+d : Nat) : Int) 32=((87+d : Nat) : Int)):=by decide
  exact h d hd
theorem or_u8 (c : Nat) (hc : c<256) : ∃ lo : Nat,lo<256∧bits .or .u8 (c : Int) 32=(lo : Int):=by
  refine ⟨c ||| 32,Nat.or_lt_two_pow (n:=8) hc (by decide),?_⟩
  show IntKind.u8.wrap ((BitVec.ofInt 8 c ||| BitVec.ofInt 8 32).toNat : Int)=_
  rw [BitVec.ofInt_natCast,BitVec.toNat_or,BitVec.toNat_ofNat,Nat.mod_eq_of_lt hc,show (BitVec.ofInt 8 32).toNat=32 from rfl,IntKind.wrap_u8]
  have : c ||| 32<2 ^ 8:=Nat.or_lt_two_pow hc (by decide)
  omega
def PuPost (w : World) (e : Ending) (w' : World) : Prop :=
  ∃ (v : Nat) (x : Value),e = .returned (.tuple #[.int .u64 v,x])∧v<18446744073709551616∧(x = .nilIface∨x = .iface 327 (.int .i64 1)∨x = .iface 327 (.int .i64 2))∧Below w.heap.size w w'
theorem pu_any8 (s : ByteArray) (w : World) (hsz : s.size≤maxLen) :
    Calls Tryz.prog 272 #[.string s,.int .i64 16,.int .i64 8] w (PuPost w):=by
  unfold maxLen at hsz
  by_cases hne : s.toList.isEmpty=true
  · go_enter Tryz.func272,Tryz.ntmps272
    go_wp2
    go_ret2
    exact ⟨0,_,rfl,by omega,.inr (.inr rfl),Below.refl _ _⟩
  · rw [Bool.not_eq_true] at hne
    have kb:=fun w=>bytes_run w s
    have hown:=bytes_own w s 5 (by unfold maxLen;omega)
    have hbel : Below w.heap.size w (Lib.bytesWorld w 5 s):=bytes_below (Below.refl _ _) (Nat.le_refl _) _ _
    have HOWN:=Lib.hid hown
    have HBEL:=Lib.hid hbel
    clear hown hbel
    go_enter Tryz.func272,Tryz.ntmps272
    go_wp2
    generalize Lib.bytesWorld w 5 s=w1 at *
    clear kb hne
    go_loop [12,13,101] (fun u n i=>∃ k x : Nat,k≤s.size∧i = .int .i64 k∧u = .bool false∧n = .int .u64 x∧x≤255) (fun _ _ i=>s.size - (intOf i).toNat)
    case atStart=>exact ⟨0,0,Nat.zero_le _,rfl,rfl,rfl,by omega⟩
    case round =>
      obtain ⟨k,x,hk,rfl,rfl,rfl,hx⟩:=hrel
      by_cases hlt : k<s.size
      · have hc:=HOWN.out.cell k hlt
        have hlt3:=HOWN.out.lt
        rw [Nat.zero_add] at hc
        have hc256:=(s.data.toList.getD k 0).toNat_lt
        generalize (s.data.toList.getD k 0).toNat=c at *
        obtain ⟨lo,hlo,hor⟩:=or_u8 c hc256
        have hcut : ((1152921504606846976 : Int)≤(x : Int))=False:=by simp;omega
        have hmul : IntKind.u64.wrap ((x : Int)*16)=(x : Int)*16:=by rw [IntKind.wrap_u64];omega
        have HXX:=Lib.hid hx
        have hxI : (x : Int)≤255:=by omega
        have hx0 : (0 : Int)≤(x : Int):=by omega
        have hcI : (c : Int)<256:=by omega
        have hlI : (lo : Int)<256:=by omega
        clear hx hc256 hlo
        go_wp2
        all_goals first|(go_ret2;exact ⟨0,_,rfl,by omega,.inr (.inr rfl),HBEL.out⟩)|(go_ret2;exact ⟨255,_,rfl,by omega,.inr (.inl rfl),HBEL.out⟩)|(go_round;(case rel=>first|exact ⟨k+1,((x : Int)*16+((c : Int) - 48)).toNat,by omega,by go_num,rfl,by rw [Int.toNat_of_nonneg (by omega)],by omega⟩|exact ⟨k+1,((x : Int)*16+((lo : Int) - 97+10)).toNat,by omega,by go_num,rfl,by rw [Int.toNat_of_nonneg (by omega)],by omega⟩);(case measure=>simp [intOf];omega))
      · go_wp2
        go_ret2
        exact ⟨x,_,rfl,by omega,.inl rfl,HBEL.out⟩
theorem pu_ok8 (s : ByteArray) (m : Nat) (w : World) (hs : s.data.toList=hex m) (hm : m≤255) (hsz : s.size≤maxLen) :
    Calls Tryz.prog 272 #[.string s,.int .i64 16,.int .i64 8] w fun e w'=>e = .returned (.tuple #[.int .u64 m,.nilIface])∧Below w.heap.size w w':=by
  have hne:=list_ne s m hs
  have kb:=fun w=>bytes_run w s
  have hown:=bytes_own w s 5 hsz
  have hbel : Below w.heap.size w (Lib.bytesWorld w 5 s):=bytes_below (Below.refl _ _) (Nat.le_refl _) _ _
  have HOWN:=Lib.hid hown
  have HBEL:=Lib.hid hbel
  have hszs : s.data.toList.length=s.size:=by simp
  have HSZ:=Lib.hid hszs
  have HS:=Lib.hid hs
  unfold maxLen at hsz
  clear hown hbel hszs hs
  go_enter Tryz.func272,Tryz.ntmps272
  go_wp2
  generalize Lib.bytesWorld w 5 s=w1 at *
  clear kb hne
  go_loop [12,13,101] (fun u n i=>∃ k x : Nat,k≤s.size∧i = .int .i64 k∧u = .bool false∧n = .int .u64 x∧x≤255∧Hid (x=num ((hex m).take k))) (fun _ _ i=>s.size - (intOf i).toNat)
  case atStart=>exact ⟨0,0,Nat.zero_le _,rfl,rfl,rfl,by omega,rfl⟩
  case round =>
    obtain ⟨k,x,hk,rfl,rfl,rfl,hx,HX⟩:=hrel
    by_cases hlt : k<s.size
    · have hc:=HOWN.out.cell k hlt
      have hg : HOWN.out.lt=HOWN.out.lt:=rfl
      have hlt3:=HOWN.out.lt
      rw [Nat.zero_add,HS.out] at hc
      have hkl : k<(hex m).length:=by rw [← HS.out,HSZ.out];exact hlt
      have hgd : (hex m).getD k 0=(hex m)[k]:=by simp [List.getD,hkl]
      rw [hgd] at hc
      obtain ⟨d,hd,hcd⟩:=hex_mem m (List.getElem_mem hkl)
      have hn:=num_take_le (hex m) (k+1)
      rw [num_hex,List.take_succ_eq_append_getElem hkl,num_snoc,hcd,val_dig d hd,← HX.out] at hn
      have HN : Hid (num ((hex m).take (k+1))=x*16+d):=by
        show _=_
        rw [List.take_succ_eq_append_getElem hkl,num_snoc,hcd,val_dig d hd,← HX.out]
      rw [hcd] at hc
      have hcut : ((1152921504606846976 : Int)≤(x : Int))=False:=by simp;omega
      have hmul : IntKind.u64.wrap ((x : Int)*16)=(x : Int)*16:=by rw [IntKind.wrap_u64];omega
      have hadd : IntKind.u64.wrap ((x : Int)*16+(d : Int))=(x : Int)*16+(d : Int):=by rw [IntKind.wrap_u64];omega
      have hlss : ((x : Int)*16+(d : Int)<(x : Int)*16)=False:=eq_false (by omega)
      have hgtr : ((255 : Int)<(x : Int)*16+(d : Int))=False:=by simp;omega
      have hd16 : ((16 : Int)≤(d : Int))=False:=by simp;omega
      have hxm : x*16+d≤255:=by omega
      have HXM:=Lib.hid hxm
      clear hxm
      have HM:=Lib.hid hm
      have HXX:=Lib.hid hx
      clear hgd hcd hg hm hx hn
      rcases dig_case d hd with ⟨h1,h2,h3⟩|⟨h1,h2,h3,h4⟩
      · rw [h1] at hc
        clear h1
        generalize hcv : 48+d=c at *
        have hc1 : (48 : Int)≤(c : Int):=by omega
        have hc2 : (c : Int)≤57:=by omega
        have h95 : ((c : Int) == 95)=false:=by simp;omega
        have hsub : (c : Int) - 48=(d : Int):=by omega
        clear hcv
        go_wp2
        go_round
        case rel=>exact ⟨k+1,x*16+d,by omega,by go_num,rfl,by go_num,HXM.out,HN.out.symm⟩
        case measure=>simp [intOf];omega
      · rw [h1] at hc
        clear h1
        generalize hcv : 87+d=c at *
        have hc1 : ¬ ((c : Int)≤57):=by omega
        have h95 : ((c : Int) == 95)=false:=by simp;omega
        have hsub2 : (c : Int) - 97+10=(d : Int):=by omega
        clear hcv
        go_wp2
        go_round
        case rel=>exact ⟨k+1,x*16+d,by omega,by go_num,rfl,by go_num,HXM.out,HN.out.symm⟩
        case measure=>simp [intOf];omega
    · go_wp2
      go_ret2
      have e : (hex m).take k=hex m:=List.take_of_length_le (by rw [← HS.out,HSZ.out];omega)
      have:=HX.out
      rw [e,num_hex] at this
      exact ⟨by rw [this];rfl,HBEL.out⟩
theorem pu_any31 (s : ByteArray) (w : World) (hsz : s.size≤maxLen) :
    Calls Tryz.prog 272 #[.string s,.int .i64 16,.int .i64 31] w (PuPost w):=by
  unfold maxLen at hsz
  by_cases hne : s.toList.isEmpty=true
  · go_enter Tryz.func272,Tryz.ntmps272
    go_wp2
    go_ret2
    exact ⟨0,_,rfl,by omega,.inr (.inr rfl),Below.refl _ _⟩
  · rw [Bool.not_eq_true] at hne
    have kb:=fun w=>bytes_run w s
    have hown:=bytes_own w s 5 (by unfold maxLen;omega)
    have hbel : Below w.heap.size w (Lib.bytesWorld w 5 s):=bytes_below (Below.refl _ _) (Nat.le_refl _) _ _
    have HOWN:=Lib.hid hown
    have HBEL:=Lib.hid hbel
    clear hown hbel
    go_enter Tryz.func272,Tryz.ntmps272
    go_wp2
    generalize Lib.bytesWorld w 5 s=w1 at *
    clear kb hne
    go_loop [12,13,101] (fun u n i=>∃ k x : Nat,k≤s.size∧i = .int .i64 k∧u = .bool false∧n = .int .u64 x∧x≤2147483647) (fun _ _ i=>s.size - (intOf i).toNat)
    case atStart=>exact ⟨0,0,Nat.zero_le _,rfl,rfl,rfl,by omega⟩
    case round =>
      obtain ⟨k,x,hk,rfl,rfl,rfl,hx⟩:=hrel
      by_cases hlt : k<s.size
      · have hc:=HOWN.out.cell k hlt
        have hlt3:=HOWN.out.lt
        rw [Nat.zero_add] at hc
        have hc256:=(s.data.toList.getD k 0).toNat_lt
        generalize (s.data.toList.getD k 0).toNat=c at *
        obtain ⟨lo,hlo,hor⟩:=or_u8 c hc256
        have hcut : ((1152921504606846976 : Int)≤(x : Int))=False:=by simp;omega
        have hmul : IntKind.u64.wrap ((x : Int)*16)=(x : Int)*16:=by rw [IntKind.wrap_u64];omega
        have HXX:=Lib.hid hx
        have hxI : (x : Int)≤2147483647:=by omega
        have hx0 : (0 : Int)≤(x : Int):=by omega
        have hcI : (c : Int)<256:=by omega
        have hlI : (lo : Int)<256:=by omega
        clear hx hc256 hlo
        go_wp2
        all_goals first|(go_ret2;exact ⟨0,_,rfl,by omega,.inr (.inr rfl),HBEL.out⟩)|(go_ret2;exact ⟨2147483647,_,rfl,by omega,.inr (.inl rfl),HBEL.out⟩)|(go_round;(case rel=>first|exact ⟨k+1,((x : Int)*16+((c : Int) - 48)).toNat,by omega,by go_num,rfl,by rw [Int.toNat_of_nonneg (by omega)],by omega⟩|exact ⟨k+1,((x : Int)*16+((lo : Int) - 97+10)).toNat,by omega,by go_num,rfl,by rw [Int.toNat_of_nonneg (by omega)],by omega⟩);(case measure=>simp [intOf];omega))
      · go_wp2
        go_ret2
        exact ⟨x,_,rfl,by omega,.inl rfl,HBEL.out⟩
theorem pu_ok31 (s : ByteArray) (m : Nat) (w : World) (hs : s.data.toList=hex m) (hm : m≤2147483647) (hsz : s.size≤maxLen) :
    Calls Tryz.prog 272 #[.string s,.int .i64 16,.int .i64 31] w fun e w'=>e = .returned (.tuple #[.int .u64 m,.nilIface])∧Below w.heap.size w w':=by
  have hne:=list_ne s m hs
  have kb:=fun w=>bytes_run w s
  have hown:=bytes_own w s 5 hsz
  have hbel : Below w.heap.size w (Lib.bytesWorld w 5 s):=bytes_below (Below.refl _ _) (Nat.le_refl _) _ _
  have HOWN:=Lib.hid hown
  have HBEL:=Lib.hid hbel
  have hszs : s.data.toList.length=s.size:=by simp
  have HSZ:=Lib.hid hszs
  have HS:=Lib.hid hs
  unfold maxLen at hsz
  clear hown hbel hszs hs
  go_enter Tryz.func272,Tryz.ntmps272
  go_wp2
  generalize Lib.bytesWorld w 5 s=w1 at *
  clear kb hne
  go_loop [12,13,101] (fun u n i=>∃ k x : Nat,k≤s.size∧i = .int .i64 k∧u = .bool false∧n = .int .u64 x∧x≤2147483647∧Hid (x=num ((hex m).take k))) (fun _ _ i=>s.size - (intOf i).toNat)
  case atStart=>exact ⟨0,0,Nat.zero_le _,rfl,rfl,rfl,by omega,rfl⟩
  case round =>
    obtain ⟨k,x,hk,rfl,rfl,rfl,hx,HX⟩:=hrel
    by_cases hlt : k<s.size
    · have hc:=HOWN.out.cell k hlt
      have hg : HOWN.out.lt=HOWN.out.lt:=rfl
      have hlt3:=HOWN.out.lt
      rw [Nat.zero_add,HS.out] at hc
      have hkl : k<(hex m).length:=by rw [← HS.out,HSZ.out];exact hlt
      have hgd : (hex m).getD k 0=(hex m)[k]:=by simp [List.getD,hkl]
      rw [hgd] at hc
      obtain ⟨d,hd,hcd⟩:=hex_mem m (List.getElem_mem hkl)
      have hn:=num_take_le (hex m) (k+1)
      rw [num_hex,List.take_succ_eq_append_getElem hkl,num_snoc,hcd,val_dig d hd,← HX.out] at hn
      have HN : Hid (num ((hex m).take (k+1))=x*16+d):=by
        show _=_
        rw [List.take_succ_eq_append_getElem hkl,num_snoc,hcd,val_dig d hd,← HX.out]
      rw [hcd] at hc
      have hcut : ((1152921504606846976 : Int)≤(x : Int))=False:=by simp;omega
      have hmul : IntKind.u64.wrap ((x : Int)*16)=(x : Int)*16:=by rw [IntKind.wrap_u64];omega
      have hadd : IntKind.u64.wrap ((x : Int)*16+(d : Int))=(x : Int)*16+(d : Int):=by rw [IntKind.wrap_u64];omega
      have hlss : ((x : Int)*16+(d : Int)<(x : Int)*16)=False:=eq_false (by omega)
      have hgtr : ((2147483647 : Int)<(x : Int)*16+(d : Int))=False:=by simp;omega
      have hd16 : ((16 : Int)≤(d : Int))=False:=by simp;omega
      have hxm : x*16+d≤2147483647:=by omega
      have HXM:=Lib.hid hxm
      clear hxm
      have HM:=Lib.hid hm
      have HXX:=Lib.hid hx
      clear hgd hcd hg hm hx hn
      rcases dig_case d hd with ⟨h1,h2,h3⟩|⟨h1,h2,h3,h4⟩
      · rw [h1] at hc
        clear h1
        generalize hcv : 48+d=c at *
        have hc1 : (48 : Int)≤(c : Int):=by omega
        have hc2 : (c : Int)≤57:=by omega
        have h95 : ((c : Int) == 95)=false:=by simp;omega
        have hsub : (c : Int) - 48=(d : Int):=by omega
        clear hcv
        go_wp2
        go_round
        case rel=>exact ⟨k+1,x*16+d,by omega,by go_num,rfl,by go_num,HXM.out,HN.out.symm⟩
        case measure=>simp [intOf];omega
      · rw [h1] at hc
        clear h1
        generalize hcv : 87+d=c at *
        have hc1 : ¬ ((c : Int)≤57):=by omega
        have h95 : ((c : Int) == 95)=false:=by simp;omega
        have hsub2 : (c : Int) - 97+10=(d : Int):=by omega
        clear hcv
        go_wp2
        go_round
        case rel=>exact ⟨k+1,x*16+d,by omega,by go_num,rfl,by go_num,HXM.out,HN.out.symm⟩
        case measure=>simp [intOf];omega
    · go_wp2
      go_ret2
      have e : (hex m).take k=hex m:=List.take_of_length_le (by rw [← HS.out,HSZ.out];omega)
      have:=HX.out
      rw [e,num_hex] at this
      exact ⟨by rw [this];rfl,HBEL.out⟩
end Go.Proofs.YtmimfkhkilijcaaGreatDoor
