/- KCrc; KVar; KFrame: what is reached of them. -/
import Derived.Test.YtmimfkhkilijcaaGreatDoorWq01
import Derived.Test.YtmimfkhkilijcaaGreatDoorWq23
import Derived.WalkKit
import Derived.ProofKit
import Derived.OpenShut
import Derived.Handy
import Derived.BigQuiet
import Derived.Deep.QuietTactic
import Derived.IntWalk
import Derived.Outline
import Derived.Lib.Hide
import Derived.WalkLawsBesides
import Derived.Deep.RegionWith
import Derived.Deep.DeepCutAuto
import Derived.Deep.DeepFit
import Derived.Test.YtmimfkhkilijcaaGreatDoorWq02
import Derived.BigRegion
import Derived.Deep.RegionHeld3
import Derived.Lib.Strings
import Derived.Test.YtmimfkhkilijcaaGreatDoorWq04
import Derived.Test.YtmimfkhkilijcaaGreatDoorWq08
set_option linter.unusedVariables false
set_option linter.unusedSimpArgs false
set_option maxRecDepth 100000
set_option maxHeartbeats 8000000
namespace Go.Proofs.YtmimfkhkilijcaaGreatDoor
open Go.ChangeShapes Go.WideShapes Go.ChangeAt Go.RowKit
open PCrc
theorem xor_u32 (x y : Nat) (hx : x<4294967296) (hy : y<4294967296) : bits .xor .u32 (x : Int) (y : Int)=((x ^^^ y : Nat) : Int):=by
  show IntKind.u32.wrap ((BitVec.ofInt 32 x ^^^ BitVec.ofInt 32 y).toNat : Int)=_
  rw [BitVec.ofInt_natCast,BitVec.ofInt_natCast,BitVec.toNat_xor,BitVec.toNat_ofNat,BitVec.toNat_ofNat,Nat.mod_eq_of_lt hx,Nat.mod_eq_of_lt hy,IntKind.wrap_u32]
  have : x ^^^ y<2 ^ 32:=Nat.xor_lt_two_pow hx hy
  omega
theorem xor_u8 (x y : Nat) (hx : x<256) (hy : y<256) : bits .xor .u8 (x : Int) (y : Int)=((x ^^^ y : Nat) : Int):=by
  show IntKind.u8.wrap ((BitVec.ofInt 8 x ^^^ BitVec.ofInt 8 y).toNat : Int)=_
  rw [BitVec.ofInt_natCast,BitVec.ofInt_natCast,BitVec.toNat_xor,BitVec.toNat_ofNat,BitVec.toNat_ofNat,Nat.mod_eq_of_lt hx,Nat.mod_eq_of_lt hy,IntKind.wrap_u8]
  have : x ^^^ y<2 ^ 8:=Nat.xor_lt_two_pow hx hy
  omega
theorem and1_u32 (x : Nat) (hx : x<4294967296) : bits .and .u32 (x : Int) 1=((x % 2 : Nat) : Int):=by
  show IntKind.u32.wrap ((BitVec.ofInt 32 x &&& BitVec.ofInt 32 1).toNat : Int)=_
  rw [BitVec.ofInt_natCast,BitVec.toNat_and,BitVec.toNat_ofNat,Nat.mod_eq_of_lt hx,show (BitVec.ofInt 32 1).toNat=1 from rfl,Nat.and_one_is_mod,IntKind.wrap_u32]
  omega
theorem not_u32 (x : Nat) (hx : x<4294967296) : bits .xor .u32 4294967295 (x : Int)=((4294967295 - x : Nat) : Int):=by
  show IntKind.u32.wrap ((BitVec.ofInt 32 4294967295 ^^^ BitVec.ofInt 32 x).toNat : Int)=_
  have e : BitVec.ofInt 32 4294967295=BitVec.allOnes 32:=by decide
  rw [e,BitVec.allOnes_xor,BitVec.toNat_not,BitVec.ofInt_natCast,BitVec.toNat_ofNat,IntKind.wrap_u32]
  omega
theorem crc_remainder (r : Nat) (w : World) (hr : r<4294967296) :
    Calls Tryz.prog 245 #[.int .u32 r] w fun e w'=>e = .returned (.int .u32 (tab r : Nat))∧w=w':=by
  go_enter Tryz.func245,Tryz.ntmps245
  go_wp2
  go_loop [0,3,4] (fun a f i=>∃ k x : Nat,k≤8∧i = .int .i64 k∧a = .int .u32 x∧x<4294967296∧Hid (iter (8 - k) x=tab r)) (fun _ _ i=>8 - (intOf i).toNat)
  case atStart=>exact ⟨0,r,by omega,rfl,rfl,hr,rfl⟩
  case round =>
    obtain ⟨k,x,hk,rfl,rfl,hx,HI⟩:=hrel
    by_cases hlt : k<8
    · have HX:=Lib.hid (xor_u32 (x / 2) 3988292384 (by omega) (by decide))
      have e8 : iter (8 - k) x=iter (8 - (k+1)) (cst x):=by rw [show 8 - k=(8 - (k+1))+1 by omega,iter_1]
      have hst : cst x<4294967296:=cst_lt hx
      have HE:=Lib.hid e8
      have HST:=Lib.hid hst
      clear e8 hst
      have ha:=and1_u32 x hx
      rcases (by omega : x % 2=1∨x % 2=0) with h|h
      · have h1 : (bits BinOp.and IntKind.u32 (↑x) 1 == 1)=true:=by rw [ha,h];rfl
        have hs : Hid (bits BinOp.xor IntKind.u32 (↑x / 2) 3988292384=((cst x : Nat) : Int)):=by
          show _=_
          have:=HX.out
          unfold cst
          rw [if_pos h]
          exact this
        clear ha
        go_wp2
        go_round
        case rel=>exact ⟨k+1,cst x,by omega,by go_num,by rw [hs.out],HST.out,by rw [← HI.out,HE.out];exact rfl⟩
        case measure=>simp [intOf];omega
      · have h1 : (bits BinOp.and IntKind.u32 (↑x) 1 == 1)=false:=by rw [ha,h];rfl
        have hs : Hid ((x : Int) / 2=((cst x : Nat) : Int)):=by
          show _=_
          unfold cst
          rw [if_neg (by omega)]
          omega
        clear ha
        go_wp2
        go_round
        case rel=>exact ⟨k+1,cst x,by omega,by go_num,by rw [hs.out],HST.out,by rw [← HI.out,HE.out];exact rfl⟩
        case measure=>simp [intOf];omega
    · go_wp2
      go_ret
      refine ⟨ret_int ?_,rfl⟩
      have:=HI.out
      rw [show 8 - k=0 by omega,iter_0] at this
      rw [← this]
def Tab (w : World) (g : Nat) : Prop:=Own w g 0 256 (fun j=>.int .u32 (tab j : Nat))
theorem tab_made (w : World) : (zeroValue 320).run Tryz.prog w = .ok (.agg (Array.replicate 256 (.int .u32 0))) w:=by kernel_rfl
theorem Own.made (w : World) (n : Nat) (v : Value) (e : TypeId) : Own (w.alloc (.cells (Array.replicate n v) e)) w.heap.size 0 n (fun _=>v):=by
  refine ⟨by simp,fun j hj=>?_,fun j hj=>?_⟩
  · rw [cell_of_row _ w.heap.size (0+j) _ e (0,0) (heap_alloc_new w _)]
    simp [hj]
  · have e0:=heap_alloc_new w (.cells (Array.replicate n v) e (0,0))
    simp only [World.frozen?,e0]
    simp
theorem crc_new (w : World) : Calls Tryz.prog 208 #[] w fun e w'=>∃ g,e = .returned (.pointer (some ⟨g,0,none⟩))∧w.heap.size≤g∧Tab w' g∧Below w.heap.size w w':=by
  have hal:=tab_made w
  have hown:=Own.made w 256 (.int .u32 0) 320
  have hbel:=(Below.refl w.heap.size w).alloc (Nat.le_refl _) (.cells (Array.replicate 256 (.int .u32 0)) 320)
  go_enter Tryz.func208,Tryz.ntmps208
  go_wp2
  generalize w.alloc (.cells (Array.replicate 256 (.int .u32 0)) 320)=w1 at *
  clear hal
  go_loopw [2,4] (fun b i wr=>∃ k : Nat,k≤256∧i = .int .i64 k∧Own wr w.heap.size 0 256 (fun j=>.int .u32 (if j<k then (tab j : Nat) else 0 : Nat))∧Below w.heap.size w wr) (fun _ i _=>256 - (intOf i).toNat)
  case atStart=>exact ⟨0,by omega,rfl,hown.congr (fun j hj=>by simp),hbel⟩
  case round =>
    obtain ⟨k,hk,rfl,ho,hb⟩:=hrel
    by_cases hlt : k<256
    · have hc:=ho.cell k hlt
      have hf:=ho.free k hlt
      have hlt2:=ho.lt
      rw [Nat.zero_add] at hc hf
      rw [if_neg (by omega)] at hc
      have hw32 : IntKind.u32.wrap (k : Int)=k:=by rw [IntKind.wrap_u32];omega
      go_wp2
      go_region_with (go_at_call 245;refine (crc_remainder k _ (by omega)).mono ?_;rintro e w' ⟨rfl,rfl⟩)
      have hset:=ho.drew.set k hlt (.int .u32 (tab k : Nat))
      rw [Nat.zero_add] at hset
      have hset':=hset.congr (f':=fun j=>.int .u32 (if j<k+1 then (tab j : Nat) else 0 : Nat)) (fun j hj=>by
        show (if j=k then _ else _)=_
        by_cases e : j=k
        · subst e;rw [if_pos rfl,if_pos (by omega)]
        · rw [if_neg e]
          by_cases e2 : j<k
          · rw [if_pos e2,if_pos (by omega)]
          · rw [if_neg e2,if_neg (by omega)])
      go_wp2
      go_roundw
      case rel=>exact ⟨k+1,by omega,by go_num,hset',hb.drew.setCell (by simp) _⟩
      case measure=>simp [intOf];omega
    · go_wp2
      go_ret
      refine ⟨_,rfl,Nat.le_refl _,ho.congr (fun j hj=>by rw [if_pos (by omega)]),hb⟩
theorem Tab.drew {w : World} {g : Nat} (h : Tab w g) : Tab w.drew g:=Own.drew h
theorem crc_sum (g : Nat) (s : ByteArray) (w : World) (ht : Tab w g) (hs : s.size≤maxLen) :
    Calls Tryz.prog 269 #[.pointer (some ⟨g,0,none⟩),.string s] w fun e w'=>e = .returned (.int .u32 (PCrc.sum s.data.toList : Nat))∧∃ n,w'=w.drewN n:=by
  unfold maxLen at hs
  go_enter Tryz.func269,Tryz.ntmps269
  go_wp2
  go_loopw [5,6,9] (fun a j i wr=>∃ k r n : Nat,k≤s.size∧i = .int .i64 k∧a = .int .u32 r∧r<4294967296∧Hid (r=PCrc.reg 4294967295 (s.data.toList.take k))∧wr=w.drewN n) (fun _ _ i _=>s.size - (intOf i).toNat)
  case atStart=>exact ⟨0,4294967295,0,Nat.zero_le _,rfl,rfl,by omega,rfl,rfl⟩
  case round =>
    obtain ⟨k,r,n,hk,rfl,rfl,hr,HR,rfl⟩:=hrel
    by_cases hlt : k<s.size
    · have hc:=(s[k]).toNat_lt
      have hS:=reg_snoc 4294967295 s.data.toList k (by simpa using hlt)
      rw [← HR.out] at hS
      have hidx : (r % 256) ^^^ s[k].toNat<2 ^ 8:=Nat.xor_lt_two_pow (by omega) hc
      have HS : Hid (PCrc.reg 4294967295 (s.data.toList.take (k+1))=PCrc.upd r s[k].toNat):=hS
      have hx:=xor_u8 (r % 256) s[k].toNat (by omega) hc
      have hcell:=ht.cell _ hidx
      have htl:=tab_lt hidx
      have HU : Hid (PCrc.upd r s[k].toNat=(PCrc.tab ((r % 256) ^^^ s[k].toNat)) ^^^ (r / 256)):=rfl
      clear hS
      rw [Nat.zero_add] at hcell
      generalize hi : (r % 256) ^^^ s[k].toNat=idx at *
      generalize PCrc.tab idx=t at *
      have hx2:=xor_u32 t (r / 256) htl (by omega)
      have HX2:=Lib.hid hx2
      clear hx2 hi
      have hx1 : bits .xor .u8 ((r : Int) % 256) (s[k].toNat : Int)=(idx : Int):=hx
      have hx3 : bits .xor .u8 (IntKind.u8.wrap (r : Int)) (s[k].toNat : Int)=(idx : Int):=by rw [IntKind.wrap_u8];exact hx
      clear hx
      go_wp2
      go_region
      go_wp2
      go_roundw
      case rel=>exact ⟨k+1,t ^^^ (r / 256),n+1,by omega,by go_num,by rw [← HX2.out];rfl,Nat.xor_lt_two_pow htl (Nat.lt_of_le_of_lt (Nat.div_le_self _ _) hr),(by rw [HS.out,HU.out];exact rfl),rfl⟩
      case measure=>simp [intOf];omega
    · go_wp2
      go_ret
      have hm : IntKind.u32.max=4294967295:=by decide
      refine ⟨ret_int ?_,n,rfl⟩
      rw [hm,not_u32 r hr,PCrc.sum,HR.out,List.take_of_length_le (by simp;omega)]
theorem four_text (n : Nat) (hn : n<4294967296) (w : World) (N : Nat) (hN : w.heap.size=N) :
    (convert 79 9 (.slice (some ⟨N,0,none⟩) 4 4)).run Tryz.prog (w.alloc (.cells #[.int .u8 ((n : Int) / 16777216),.int .u8 ((n : Int) / 65536 % 256),.int .u8 ((n : Int) / 256 % 256),.int .u8 ((n : Int) % 256)] 5)) =
      .ok (.string (bstr (four n))) (w.alloc (.cells #[.int .u8 ((n : Int) / 16777216),.int .u8 ((n : Int) / 65536 % 256),.int .u8 ((n : Int) / 256 % 256),.int .u8 ((n : Int) % 256)] 5)):=by
  subst hN
  have h:=Sl.made (B:=w.heap.size) w #[.int .u8 ((n : Int) / 16777216),.int .u8 ((n : Int) / 65536 % 256),.int .u8 ((n : Int) / 256 % 256),.int .u8 ((n : Int) % 256)] 5 1 4 4 (Nat.le_refl _) (Nat.le_refl _) (by decide) (by simp)
  refine sl_string (n:=4) (l:=four n) ?_ 79 9 5 Tryz.underlying79 Tryz.underlying5 Tryz.underlying9 (B:=w.heap.size)
  have e : bv (four n)=[.int .u8 ((n : Int) / 16777216),.int .u8 ((n : Int) / 65536 % 256),.int .u8 ((n : Int) / 256 % 256),.int .u8 ((n : Int) % 256)]:=by
    simp [bv,four]
    omega
  rw [e]
  simpa using h
theorem crc_seal4 (g : Nat) (s : ByteArray) (w : World) (ht : Tab w g) (hs : s.size≤maxLen) :
    Calls Tryz.prog 246 #[.pointer (some ⟨g,0,none⟩),.string s] w fun e w'=>e = .returned (.string (bstr (four (PCrc.sum s.data.toList))))∧Below w.heap.size w w':=by
  have hlt:=sum_lt s.data.toList
  have HS:=Lib.hid (crc_sum g s w ht hs)
  generalize PCrc.sum s.data.toList=n at *
  have kc:=fun m=>four_text n hlt (w.drewN m) w.heap.size rfl
  go_enter Tryz.func246,Tryz.ntmps246
  go_wp2_with (first|(go_at_call 269;refine HS.out.mono ?_;rintro e w' ⟨rfl,m,rfl⟩))
  go_ret
  exact ⟨rfl,(below_drewN (Below.refl _ _) _).alloc (Nat.le_refl _) _⟩
theorem str_clone (s : ByteArray) (w : World) (hs : s.size≤281474976710656) :
    Calls Tryz.prog 156 #[.string s] w fun e w'=>e = .returned (.string s)∧Below w.heap.size w w':=by
  have HC:=Lib.hid (Tryz.stringslite_Clone s w hs)
  go_enter Tryz.func156,Tryz.ntmps156
  go_wp2_with (first|(go_at_call 206;refine HC.out.mono ?_;rintro e w1 ⟨rfl,hb⟩))
  go_ret
  exact ⟨rfl,hb⟩
theorem ext_take (s : ByteArray) (n : Nat) : (s.extract 0 n).data.toList=s.data.toList.take n:=by
  rw [Lib.extract_data]
  simp
theorem ext_drop (s : ByteArray) (n : Nat) : (s.extract n s.size).data.toList=s.data.toList.drop n:=by
  rw [Lib.extract_data]
  have : s.data.toList.length=s.size:=by simp
  rw [List.take_of_length_le]
  rw [List.length_drop]
  omega
theorem ext_bstr (s : ByteArray) (a b : Nat) : s.extract a b=bstr (s.extract a b).data.toList:=rfl
theorem crc_open (g : Nat) (s : ByteArray) (w : World) (ht : Tab w g) (hs : s.size≤140737488355328) :
    Calls Tryz.prog 209 #[.pointer (some ⟨g,0,none⟩),.string s] w fun e w'=>e = .returned (.tuple #[.string (bstr (opened s.data.toList)),.bool (opn s.data.toList)])∧Below w.heap.size w w':=by
  have hsl : s.data.toList.length=s.size:=by simp
  by_cases h4 : s.size<4
  · have ho : opn s.data.toList=false:=by unfold opn;simp;omega
    have hod : opened s.data.toList=[]:=by unfold opened;rw [ho];rfl
    rw [ho,hod]
    clear ho hod hsl
    go_enter Tryz.func209,Tryz.ntmps209
    go_wp2
    generalize hcut : (s.size : Int) - 4=c
    have hneg : c<0:=by omega
    clear hcut h4
    go_region
    go_wp2
    go_ret2
    exact ⟨rfl,(Below.refl _ _).drew⟩
  · obtain ⟨m,hm⟩ : ∃ m,s.size=m+4:=⟨s.size - 4,by omega⟩
    have hc4:=fun w' (h : Tab w' g)=>crc_seal4 g (s.extract 0 m) w' h (by unfold maxLen;simp;omega)
    have HC4:=Lib.hid hc4
    clear hc4
    have hcm : (s.size : Int) - 4=(m : Int):=by omega
    have hms : m≤s.size:=by omega
    have hnd : decide ((m : Int)<0)=false:=by simp
    clear hm h4
    go_enter Tryz.func209,Tryz.ntmps209
    go_wp2
    go_region_held3 (fun _=>True) (exact trivial) (first|(go_at_call 246;refine (HC4.out _ ht.drew).mono ?_;rintro e w1 ⟨rfl,hb⟩))
    have hb' : Below w.heap.size w w1:=⟨hb.os,hb.tape,hb.output,hb.size,hb.block⟩
    have hd:=ext_drop s m
    have hpos : (4 : Nat)≤s.data.toList.length:=by omega
    have hlm : s.data.toList.length - 4=m:=by omega
    have hcl:=fun w'=>str_clone (s.extract 0 m) w' (by simp;omega)
    have HCL:=Lib.hid hcl
    clear hcl
    have he : Hid (s.extract 0 m=bstr (s.data.toList.take m)):=by show _=_;rw [ext_bstr s 0 m,ext_take]
    have HD:=Lib.hid hd
    clear hd
    go_wp2_with (first|(go_at_call 156;refine (HCL.out _).mono ?_;rintro e w2 ⟨rfl,hb2⟩))
    · have h : (!((s.extract m s.size).toList == four (PCrc.sum (s.data.toList.take m))))=true:=by assumption
      have hq : s.data.toList.drop m≠four (PCrc.sum (s.data.toList.take m)):=by rw [Lib.toList_data,HD.out] at h;simpa using h
      have ho : opn s.data.toList=false:=by unfold opn;rw [hlm,decide_eq_false_iff_not];exact fun h=>hq h.2
      have hod : opened s.data.toList=[]:=by unfold opened;rw [ho];rfl
      go_ret2
      exact ⟨by rw [ho,hod];rfl,hb'⟩
    · have h : (!((s.extract m s.size).toList == four (PCrc.sum (s.data.toList.take m))))=false:=by assumption
      have hq : s.data.toList.drop m=four (PCrc.sum (s.data.toList.take m)):=by rw [Lib.toList_data,HD.out] at h;simpa using h
      have ho : opn s.data.toList=true:=by unfold opn;rw [hlm,decide_eq_true_iff];exact ⟨hpos,hq⟩
      have hod : opened s.data.toList=s.data.toList.take m:=by unfold opened;rw [ho,hlm];rfl
      go_ret2
      exact ⟨by rw [he.out,ho,hod];rfl,hb'.trans (hb2.mono hb'.size)⟩
end Go.Proofs.YtmimfkhkilijcaaGreatDoor
namespace Go.Proofs.YtmimfkhkilijcaaGreatDoor
open Go.ChangeShapes Go.WideShapes Go.ChangeAt Go.RowKit
open PVar
theorem not_i64 (n : Int) (h1 : -9223372036854775808≤n) (h2 : n≤9223372036854775807) : bits .xor .i64 (-1) n = -n - 1:=by
  show IntKind.i64.wrap ((BitVec.ofInt 64 (-1) ^^^ BitVec.ofInt 64 n).toNat : Int)=_
  have e : BitVec.ofInt 64 (-1)=BitVec.allOnes 64:=by decide
  rw [e,BitVec.allOnes_xor,BitVec.toNat_not,BitVec.toNat_ofInt,IntKind.wrap_i64]
  omega
theorem var_back (n : Nat) (w : World) (hn : n≤18446744073709551615) :
    Calls Tryz.prog 270 #[.int .u64 n] w fun e w'=>e = .returned (.int .i64 (back n))∧w=w':=by
  have hx:=not_i64 ((n : Int) / 2) (by omega) (by omega)
  rcases (by omega : n % 2=1∨n % 2=0) with h|h
  · have h' : ((n : Int) % 2 == 1)=true:=by simp;omega
    go_enter Tryz.func270,Tryz.ntmps270
    go_wp2
    go_ret
    refine ⟨ret_int ?_,rfl⟩
    unfold back;split <;> omega
  · have h' : ((n : Int) % 2 == 1)=false:=by simp;omega
    go_enter Tryz.func270,Tryz.ntmps270
    go_wp2
    go_ret
    refine ⟨ret_int ?_,rfl⟩
    unfold back;split <;> omega
theorem var_fits (i : Nat) (d : Int) (w : World) (b : Bool) (hb : b = !decide (9<i∨(i=9∧1<d))) :
    Calls Tryz.prog 268 #[.int .i64 i,.int .u8 d] w fun e w'=>e = .returned (.bool b)∧w=w':=by
  have Hb:=Lib.hid hb
  clear hb
  by_cases h : i=9
  · subst h
    go_enter Tryz.func268,Tryz.ntmps268
    go_wp2
    go_ret
    refine ⟨ret_bool ?_,rfl⟩
    rw [Hb.out,Bool.eq_iff_iff]
    simp
  · go_enter Tryz.func268,Tryz.ntmps268
    go_wp2
    go_ret
    refine ⟨ret_bool ?_,rfl⟩
    rw [Hb.out,Bool.eq_iff_iff]
    simp [h]
    omega
theorem shl_step (acc k c : Nat) (hk : k≤9) (ha : acc<128 ^ k) (h9 : k=9→c % 128≤1) :
    IntKind.u64.wrap ((acc : Int)+IntKind.u64.wrap ((c : Int) % 128*2 ^ (7*k)))=((acc+c % 128*128 ^ k : Nat) : Int)∧acc+c % 128*128 ^ k≤18446744073709551615∧(k+1≤9→acc+c % 128*128 ^ k<128 ^ (k+1)):=by
  have e1 : ((c : Int) % 128*2 ^ (7*k))=((c % 128*128 ^ k : Nat) : Int):=by
    rw [Int.pow_mul]
    simp
  have hc : c % 128*128 ^ k≤127*128 ^ k:=Nat.mul_le_mul_right _ (by omega)
  have hlt : acc+c % 128*128 ^ k<128 ^ (k+1):=by rw [Nat.pow_succ];omega
  have h9' : (128 : Nat) ^ 9=9223372036854775808:=by decide
  have hle : acc+c % 128*128 ^ k≤18446744073709551615:=by
    by_cases h : k=9
    · subst h
      have : c % 128*128 ^ 9≤1*128 ^ 9:=Nat.mul_le_mul_right _ (h9 rfl)
      omega
    · have : (128 : Nat) ^ (k+1)≤128 ^ 9:=Nat.pow_le_pow_right (by omega) (by omega)
      omega
  refine ⟨?_,hle,fun _=>hlt⟩
  rw [e1,IntKind.wrap_u64,IntKind.wrap_u64]
  omega
theorem ret_get {a b c : Int} {x y z : Nat} {g : Nat×Nat×Nat} (h : g=(x,y,z)) (ha : a=x) (hb : b=y) (hc : c=z) :
    Ending.returned (.tuple #[.int .u64 a,.int .i64 b,.int .i64 c]) = .returned (.tuple #[.int .u64 (g.1 : Nat),.int .i64 (g.2.1 : Nat),.int .i64 (g.2.2 : Nat)]):=by
  rw [h,ha,hb,hc]
theorem var_get (s : ByteArray) (w : World) (hs : s.size≤maxLen) :
    Calls Tryz.prog 244 #[.string s] w fun e w'=>e = .returned (.tuple #[.int .u64 ((get s.data.toList).1 : Nat),.int .i64 ((get s.data.toList).2.1 : Nat),.int .i64 ((get s.data.toList).2.2 : Nat)])∧w=w':=by
  unfold maxLen at hs
  go_enter Tryz.func244,Tryz.ntmps244
  go_wp2
  go_loop [5,10] (fun a i=>∃ k acc : Nat,k≤s.size∧i = .int .i64 k∧a = .int .u64 acc∧acc≤18446744073709551615∧(k≤9→acc<128 ^ k)∧Hid (go k acc (s.data.toList.drop k)=get s.data.toList)) (fun _ i=>s.size - (intOf i).toNat)
  case atStart=>exact ⟨0,0,Nat.zero_le _,rfl,rfl,by omega,by simp,rfl⟩
  case round =>
    obtain ⟨k,acc,hk,rfl,rfl,ha,hp,HG⟩:=hrel
    by_cases hlt : k<s.size
    · have hc:=(s[k]).toNat_lt
      by_cases hbad : k > 9∨(k=9∧s[k].toNat % 128 > 1)
      · have Hbad:=Lib.hid hbad
        have HB : Hid (false = !decide (9<k∨(k=9∧1<(s[k].toNat : Int) % 128))):=by show false=_;simp;omega
        clear hbad
        go_wp2_with (go_at_call 268;refine (var_fits _ _ _ false HB.out).mono ?_;rintro e w' ⟨rfl,rfl⟩)
        go_ret3
        have hd:=drop_cons s k hlt
        have hG:=HG.out
        rw [hd,go_bad Hbad.out] at hG
        exact ⟨ret_get hG.symm rfl rfl rfl,rfl⟩
      · have Hbad:=Lib.hid hbad
        have hk9 : k≤9:=by omega
        have HB : Hid (true = !decide (9<k∨(k=9∧1<(s[k].toNat : Int) % 128))):=by show true=_;simp;omega
        have hp':=hp hk9
        have HS:=Lib.hid (shl_step acc k s[k].toNat hk9 hp' (fun h=>by omega))
        have hd:=Lib.hid (drop_cons s k hlt)
        clear hbad
        go_wp2_with (go_at_call 268;refine (var_fits _ _ _ true HB.out).mono ?_;rintro e w' ⟨rfl,rfl⟩)
        · have h128 : 128 ≤ s[k].toNat := by have : (128 : Int) ≤ (s[k].toNat : Int) := by assumption
                                             omega
          have hG:=HG.out
          rw [hd.out,go_on Hbad.out h128] at hG
          go_round
          case rel=>exact ⟨k+1,_,by omega,by go_num,by rw [HS.out.1],HS.out.2.1,fun h=>HS.out.2.2 h,hG⟩
          case measure=>simp [intOf];omega
        · have h1 : s[k].toNat < 128 := by have : (s[k].toNat : Int) < 128 := by assumption
                                           omega
          have h2 : s[k].toNat = 0 := by have : (s[k].toNat : Int) % 128 = 0 := by assumption
                                         omega
          go_ret3
          have hG:=HG.out
          rw [hd.out,go_zero h2 (by omega)] at hG
          exact ⟨ret_get hG.symm rfl rfl rfl,rfl⟩
        · have h1 : s[k].toNat < 128 := by have : (s[k].toNat : Int) < 128 := by assumption
                                           omega
          go_ret3
          have hG:=HG.out
          rw [hd.out,go_end Hbad.out h1 (by omega)] at hG
          have h2 : (s[k].toNat : Int) % 128=0:=by assumption
          have hk0 : k=0:=by omega
          have h3 : s[k].toNat=0:=by omega
          have ha0 : acc=0:=by rw [hk0] at hp';simpa using hp'
          exact ⟨ret_get hG.symm (by rw [h3,ha0];simp [IntKind.wrap_u64]) (by omega) rfl,rfl⟩
        · have h1 : s[k].toNat < 128 := by have : (s[k].toNat : Int) < 128 := by assumption
                                           omega
          have h2 : ¬ (s[k].toNat : Int) % 128=0:=by assumption
          go_ret3
          have hG:=HG.out
          rw [hd.out,go_end Hbad.out h1 (by omega)] at hG
          exact ⟨ret_get hG.symm (by rw [HS.out.1,Nat.mod_eq_of_lt h1]) (by omega) rfl,rfl⟩
    · have hkl : s.size≤k:=by omega
      go_wp2
      go_ret3
      have hG:=HG.out
      rw [List.drop_eq_nil_of_le (by simpa using hkl),go_nil] at hG
      exact ⟨ret_get hG.symm rfl rfl rfl,rfl⟩
theorem var_getint (s : ByteArray) (w : World) (hs : s.size≤maxLen) :
    Calls Tryz.prog 248 #[.string s] w fun e w'=>e = .returned (.tuple #[.int .i64 (back (get s.data.toList).1),.int .i64 ((get s.data.toList).2.1 : Nat),.int .i64 ((get s.data.toList).2.2 : Nat)])∧w=w':=by
  have hg:=var_get s w hs
  have hle : (get s.data.toList).2.2=0→(get s.data.toList).1≤18446744073709551615:=fun h=>by
    have:=@get_spec s.data.toList (get s.data.toList).1 (get s.data.toList).2.1 (by rw [← h])
    exact this.2.2.2
  rcases get_err s.data.toList with h|h|h
  · have HL:=Lib.hid (hle h)
    clear hle
    generalize get s.data.toList=g at *
    obtain ⟨a,b,c⟩:=g
    simp only at h hg HL
    subst h
    have Hg:=Lib.hid hg
    clear hg
    go_enter Tryz.func248,Tryz.ntmps248
    go_wp2_with (first|(go_at_call 244;refine Hg.out.mono ?_;rintro e w' ⟨rfl,rfl⟩)|(go_at_call 270;refine (var_back _ _ HL.out).mono ?_;rintro e w' ⟨rfl,rfl⟩))
    go_ret3
    exact ⟨rfl,rfl⟩
  all_goals
    rw [h] at hg ⊢
    have Hg:=Lib.hid hg
    clear hg hle h
    go_enter Tryz.func248,Tryz.ntmps248
    go_wp2_with (first|(go_at_call 244;refine Hg.out.mono ?_;rintro e w' ⟨rfl,rfl⟩))
    go_ret3
    exact ⟨rfl,rfl⟩
open PCrc PFrame
theorem fr_kind (k : Int) (w : World) (b : Bool) (hb : b=decide (k=1∨k=2)) : Calls Tryz.prog 247 #[.int .i64 k] w fun e w'=>e = .returned (.bool b)∧w=w':=by
  have HB:=Lib.hid hb
  clear hb
  by_cases h1 : k=1
  · subst h1
    go_enter Tryz.func247,Tryz.ntmps247
    go_wp2
    go_ret
    exact ⟨ret_bool (by rw [HB.out];decide),rfl⟩
  · go_enter Tryz.func247,Tryz.ntmps247
    go_wp2
    go_ret
    refine ⟨ret_bool ?_,rfl⟩
    rw [HB.out,Bool.eq_iff_iff]
    simp [h1]
abbrev rec (k t : Int) (s : ByteArray) : Value:=.agg #[.int .i64 k,.int .i64 t,.string s]
theorem sl_later {B : Nat} {w w' : World} {v : Value} {n : Nat} {l : List UInt8} (h : Sl B w 1 v n (bv l)) (hb : Below w.heap.size w w') : (convert 79 9 v).run Tryz.prog w' = .ok (.string (bstr l)) w':=by
  refine sl_string (h.upd (S:=fun k=>w.heap.size≤k) (Upd.of_below hb (fun _ _ h=>h)) (fun k hk=>?_)) _ _ _ Tryz.underlying79 Tryz.underlying5 Tryz.underlying9
  have:=(h.lt k hk).2
  omega
theorem Sl.on {B : Nat} {w w' : World} {size : Nat} {v : Value} {n : Nat} {xs : List Value} (h : Sl B w size v n xs) (hb : Below w.heap.size w w') : Sl B w' size v n xs :=
  h.upd (S:=fun k=>w.heap.size≤k) (Upd.of_below hb (fun _ _ h=>h)) (fun k hk=>by have:=(h.lt k hk).2;omega)
theorem fr_first (s : ByteArray) (w : World) (hs : s.size≤140737488355328) :
    Calls Tryz.prog 207 #[.string s] w fun e w'=>e = .returned (.tuple #[.string (bstr (ffirst s.data.toList).1),.int .i64 (ffirst s.data.toList).2.1,.int .i64 (ffirst s.data.toList).2.2])∧w=w':=by
  have hg:=var_get s w (by unfold maxLen;omega)
  have hsl : s.data.toList.length=s.size:=by simp
  by_cases h1 : (get s.data.toList).2.2≠0
  · have e : ffirst s.data.toList=([],0,(get s.data.toList).2.2):=by unfold ffirst;rw [if_pos h1]
    have h0 : get s.data.toList=(0,0,(get s.data.toList).2.2):=by
      rcases get_err s.data.toList with h|h|h
      · exact absurd h h1
      all_goals rw [h]
    rw [e]
    rw [h0] at hg
    generalize (get s.data.toList).2.2=er at *
    have HG:=Lib.hid hg
    have h1' : ((er : Int) == 0)=false:=by simpa using h1
    clear hg h0 e
    go_enter Tryz.func207,Tryz.ntmps207
    go_wp2_with (first|(go_at_call 244;refine HG.out.mono ?_;rintro e w1 ⟨rfl,rfl⟩))
    go_ret3
    exact ⟨rfl,rfl⟩
  have e1 : (get s.data.toList).2.2=0:=Decidable.not_not.1 h1
  obtain ⟨s1,_,s3,s4⟩:=@get_spec s.data.toList (get s.data.toList).1 (get s.data.toList).2.1 (by rw [← e1])
  have hdl:=digs_len s4
  rw [← s1] at hdl
  rw [e1] at hg
  have HF:=Lib.hid (show ffirst s.data.toList=_ from rfl)
  clear HF
  unfold ffirst
  rw [if_neg h1]
  clear h1 e1 s1
  generalize (get s.data.toList).1=k at *
  generalize (get s.data.toList).2.1=n at *
  rw [hsl] at s3 ⊢
  have HG:=Lib.hid hg
  clear hg
  by_cases h2 : k<2∨65536<k
  · rw [if_pos h2]
    go_enter Tryz.func207,Tryz.ntmps207
    go_wp2_with (first|(go_at_call 244;refine HG.out.mono ?_;rintro e w1 ⟨rfl,rfl⟩))
    all_goals
      go_ret3
      exact ⟨rfl,rfl⟩
  rw [if_neg h2]
  by_cases h3 : s.size<n+k+4
  · rw [if_pos h3]
    go_enter Tryz.func207,Tryz.ntmps207
    go_wp2_with (first|(go_at_call 244;refine HG.out.mono ?_;rintro e w1 ⟨rfl,rfl⟩))
    go_ret3
    exact ⟨rfl,rfl⟩
  · rw [if_neg h3]
    have hcut:=fun w=>cut_run (P:=Tryz.prog) w 9 s n (n+k+4) n (n+k+4) rfl (by omega) Tryz.underlying9 (by omega) (by omega)
    rw [show n+k+4 - n=k+4 by omega] at hcut
    go_enter Tryz.func207,Tryz.ntmps207
    go_wp2_with (first|(go_at_call 244;refine HG.out.mono ?_;rintro e w1 ⟨rfl,rfl⟩))
    go_ret3
    exact ⟨rfl,rfl⟩
abbrev frec (r : R) : Value:=rec r.1 r.2.1 (bstr r.2.2)
theorem fr_read (s : ByteArray) (w : World) (hs : s.size≤140737488355328) (h1 : 1≤s.size) :
    Calls Tryz.prog 210 #[.string s] w fun e w'=>e = .returned (.tuple #[frec (rget s.data.toList).1,.int .i64 (rget s.data.toList).2])∧Below w.heap.size w w':=by
  have hsl : s.data.toList.length=s.size:=by simp
  have hd0:=drop_cons s 0 h1
  rw [List.drop_zero] at hd0
  rw [hd0,rget_cons]
  have hfrom:=fun w=>from_run (P:=Tryz.prog) w 9 s 1 1 rfl Tryz.underlying9 h1
  have hgi:=fun w=>var_getint (bstr (s.data.toList.drop 1)) w (by show (s.data.toList.drop 1).toArray.size≤_;rw [List.size_toArray,List.length_drop];unfold maxLen;omega)
  have hrl : (s.data.toList.drop (0+1)).length=s.size - 1:=by rw [List.length_drop];omega
  have hdrop : ∀ n,s.data.toList.drop (1+n)=(s.data.toList.drop 1).drop n:=fun n=>by rw [List.drop_drop]
  have hk0:=(s[0]).toNat_lt
  generalize hc : (s[0]).toNat=c at *
  have HC : Hid (s[0].toNat=c):=hc
  have hbel : Below w.heap.size w (w.alloc (.cells #[.int .i64 0,.int .i64 0,.string ⟨#[]⟩] 54)):=(Below.refl _ _).alloc (Nat.le_refl _) _
  by_cases hk : c≠1∧c≠2
  · rw [if_pos hk]
    have hkb : decide ((c : Int)=1∨(c : Int)=2)=false:=by simp;omega
    go_enter Tryz.func210,Tryz.ntmps210
    go_wp2_with (first|(go_at_call 247;refine (fr_kind c _ false hkb.symm).mono ?_;rintro e w1 ⟨rfl,rfl⟩))
    go_returns
    exact ⟨rfl,hbel⟩
  rw [if_neg hk]
  have hkb : decide ((c : Int)=1∨(c : Int)=2)=true:=by simp;omega
  simp only [Nat.zero_add] at hrl ⊢
  clear hd0
  generalize hT : s.data.toList.drop 1=tl at *
  have HT:=Lib.hid hT
  clear hT
  have hsp:=@get_spec tl (get tl).1 (get tl).2.1
  by_cases he : (get tl).2.2≠0
  · rw [if_pos he]
    have he' : (((get tl).2.2 : Int) == 0)=false:=by simpa using he
    generalize get tl=g at *
    have HGI:=Lib.hid hgi
    clear hgi hsp hdrop
    go_enter Tryz.func210,Tryz.ntmps210
    go_wp2_with (first|(go_at_call 247;refine (fr_kind c _ true hkb.symm).mono ?_;rintro e w1 ⟨rfl,rfl⟩)|(go_at_call 248;refine (HGI.out _).mono ?_;rintro e w1 ⟨rfl,rfl⟩))
    go_returns
    exact ⟨rfl,hbel⟩
  · rw [if_neg he]
    have he0 : (get tl).2.2=0:=Decidable.not_not.1 he
    obtain ⟨s1,s2,s3,s4⟩:=hsp (by rw [← he0])
    rw [he0] at hgi
    clear hsp he he0
    generalize (get tl).2.1=n at *
    generalize (get tl).1=m at *
    have hfr2:=fun w=>from_run (P:=Tryz.prog) w 9 s (1+n) (1+n) (by omega) Tryz.underlying9 (by omega)
    rw [hdrop] at hfr2
    have hn : n≤s.size:=by omega
    have HGI:=Lib.hid hgi
    clear hgi s1 s2 hdrop
    go_enter Tryz.func210,Tryz.ntmps210
    go_wp2_with (first|(go_at_call 247;refine (fr_kind c _ true hkb.symm).mono ?_;rintro e w1 ⟨rfl,rfl⟩)|(go_at_call 248;refine (HGI.out _).mono ?_;rintro e w1 ⟨rfl,rfl⟩))
    go_returns
    exact ⟨rfl,(Below.refl _ _).alloc (Nat.le_refl _) _⟩
theorem size_bstr (l : List UInt8) : (bstr l).size=l.length:=by simp [ByteArray.size]
theorem fr_get (s : ByteArray) (w : World) (hs : s.size≤140737488355328) :
    Calls Tryz.prog 157 #[.string s] w fun e w'=>e = .returned (.tuple #[frec (fget s.data.toList).1,.int .i64 (fget s.data.toList).2.1,.int .i64 (fget s.data.toList).2.2])∧Below w.heap.size w w':=by
  have hf:=fun w=>fr_first s w hs
  have hbel : Below w.heap.size w (w.alloc (.cells #[.int .i64 0,.int .i64 0,.string ⟨#[]⟩] 54)):=(Below.refl _ _).alloc (Nat.le_refl _) _
  have hat:=At.alloc w [.int .i64 0,.int .i64 0,.string ⟨#[]⟩] 54
  by_cases hb : (ffirst s.data.toList).2.2≠0
  · obtain ⟨e1,e2⟩:=ffirst_bad hb
    rw [e1] at hf
    rw [e2]
    generalize (ffirst s.data.toList).2.2=er at *
    have he' : ((er : Int) == 0)=false:=by simpa using hb
    have HF:=Lib.hid hf
    clear hf e1 e2
    go_enter Tryz.func157,Tryz.ntmps157
    go_wp2_with (first|(go_at_call 207;refine (HF.out _).mono ?_;rintro e w1 ⟨rfl,rfl⟩))
    go_returns
    exact ⟨rfl,hbel⟩
  obtain ⟨n,k,g1,g2,g3,g4,g5,g6,g7⟩:=ffirst_ok (Decidable.not_not.1 hb)
  rw [g6] at hf
  rw [g7]
  have hlen : ((s.data.toList.drop n).take (k+4)).length=k+4:=by
    rw [List.length_take,List.length_drop];omega
  generalize (s.data.toList.drop n).take (k+4)=S at *
  have hopen:=fun (g : Nat) (w : World) (h : Tab w g)=>crc_open g (bstr S) w h (by rw [size_bstr];omega)
  have HF:=Lib.hid hf
  clear hf hb g1 g6 g7
  by_cases ho : opn S=true
  · have hol : (opened S).length=k:=by unfold opened;rw [if_pos ho,List.length_take];omega
    have hread:=fun w=>fr_read (bstr (opened S)) w (by rw [size_bstr];omega) (by rw [size_bstr];omega)
    rw [show (bstr S).data.toList=S from rfl,ho] at hopen
    rw [show (bstr (opened S)).data.toList=opened S from rfl] at hread
    rw [if_neg (by rw [ho];decide)]
    generalize opened S=O at *
    have HO:=Lib.hid hopen
    by_cases hr : (rget O).2≠0
    · have he' : (((rget O).2 : Int) == 0)=false:=by simpa using hr
      rw [if_pos hr]
      generalize rget O=r at *
      have HR:=Lib.hid hread
      clear hopen hread ho hol
      go_enter Tryz.func157,Tryz.ntmps157
      go_wp2_with (first|(go_at_call 207;refine (HF.out _).mono ?_;rintro e w1 ⟨rfl,rfl⟩)|(go_at_call 208;refine (crc_new _).mono ?_;rintro e w2 ⟨g,rfl,hg,ht2,b2⟩)|(go_at_call 209;refine (HO.out g _ ht2).mono ?_;rintro e w3 ⟨rfl,b3⟩)|(go_at_call 210;refine (HR.out _).mono ?_;rintro e w4 ⟨rfl,b4⟩;have hb4:=on_below (on_below (on_below hbel b2) b3) b4;obtain ⟨hl4,q0,f0,q1,f1,q2,f2⟩:=(((hat.on b2).on b3).on b4).three;obtain ⟨p0,p1,p2⟩:=(((hat.on b2).on b3).on b4).put3))
      refine bodyPost_ret (v:=.tuple #[frec zr,.int .i64 0,.int .i64 r.2]) (by simp [results,Tryz.results157,go_sem,p0,p1,p2,hl4,zr]) rfl ⟨rfl,(((hb4.setCell (Nat.le_refl _) _).setCell (Nat.le_refl _) _).setCell (Nat.le_refl _) _).alloc (by simp;omega) _⟩
    · have he' : (((rget O).2 : Int) == 0)=true:=by simpa using hr
      rw [if_neg hr]
      generalize rget O=r at *
      have HR:=Lib.hid hread
      clear hopen hread ho hol
      go_enter Tryz.func157,Tryz.ntmps157
      go_wp2_with (first|(go_at_call 207;refine (HF.out _).mono ?_;rintro e w1 ⟨rfl,rfl⟩)|(go_at_call 208;refine (crc_new _).mono ?_;rintro e w2 ⟨g,rfl,hg,ht2,b2⟩)|(go_at_call 209;refine (HO.out g _ ht2).mono ?_;rintro e w3 ⟨rfl,b3⟩)|(go_at_call 210;refine (HR.out _).mono ?_;rintro e w4 ⟨rfl,b4⟩;have hb4:=on_below (on_below (on_below hbel b2) b3) b4;obtain ⟨hl4,q0,f0,q1,f1,q2,f2⟩:=(((hat.on b2).on b3).on b4).three;obtain ⟨p0,p1,p2⟩:=(((hat.on b2).on b3).on b4).put3))
      refine bodyPost_ret (v:=.tuple #[frec r.1,.int .i64 (n+k+4 : Nat),.int .i64 0]) (by simp [results,Tryz.results157,go_sem,p0,p1,p2,hl4]) rfl ⟨rfl,(((hb4.setCell (Nat.le_refl _) _).setCell (Nat.le_refl _) _).setCell (Nat.le_refl _) _).alloc (by simp;omega) _⟩
  · have ho' : opn S=false:=by simpa using ho
    rw [if_pos ho']
    rw [show (bstr S).data.toList=S from rfl,ho'] at hopen
    have HO:=Lib.hid hopen
    clear hopen
    go_enter Tryz.func157,Tryz.ntmps157
    go_wp2_with (first|(go_at_call 207;refine (HF.out _).mono ?_;rintro e w1 ⟨rfl,rfl⟩)|(go_at_call 208;refine (crc_new _).mono ?_;rintro e w2 ⟨g,rfl,hg,ht2,b2⟩)|(go_at_call 209;refine (HO.out g _ ht2).mono ?_;rintro e w3 ⟨rfl,b3⟩;have hb3:=on_below (on_below hbel b2) b3;obtain ⟨hl3,q0,f0,q1,f1,q2,f2⟩:=((hat.on b2).on b3).three;obtain ⟨p0,p1,p2⟩:=((hat.on b2).on b3).put3))
    refine bodyPost_ret (v:=.tuple #[frec zr,.int .i64 0,.int .i64 5]) (by simp [results,Tryz.results157,go_sem,p0,p1,p2,zr]) rfl ⟨rfl,((hb3.setCell (Nat.le_refl _) _).setCell (Nat.le_refl _) _).setCell (Nat.le_refl _) _⟩
end Go.Proofs.YtmimfkhkilijcaaGreatDoor
