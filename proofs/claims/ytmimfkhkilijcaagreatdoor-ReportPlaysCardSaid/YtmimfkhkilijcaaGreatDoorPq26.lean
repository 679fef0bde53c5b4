/- KVar: what is reached of them. -/
import Derived.Test.YtmimfkhkilijcaaGreatDoorPq01
import Derived.WalkKit
import Derived.ProofKit
import Derived.OpenShut
import Derived.Handy
import Derived.BigQuiet
import Derived.Deep.QuietTactic
import Derived.IntWalk
import Derived.Outline
import Derived.Lib.Hide
import Derived.Test.YtmimfkhkilijcaaGreatDoorPq16
import Derived.Lib.Strings
import Derived.Test.YtmimfkhkilijcaaGreatDoorPq04
import Derived.Deep.RegionWith
import Derived.Deep.DeepCutAuto
set_option linter.unusedVariables false
set_option linter.unusedSimpArgs false
set_option maxRecDepth 100000
set_option maxHeartbeats 8000000
namespace Go.Proofs.YtmimfkhkilijcaaGreatDoor
open Go.ChangeShapes Go.WideShapes Go.ChangeAt Go.RowKit
open PVar
theorem not_i64 (n : Int) (h1 : -9223372036854775808≤n) (h2 : n≤9223372036854775807) : bits .xor .i64 (-1) n = -n - 1:=by
  show IntKind.i64.wrap ((BitVec.ofInt 64 (-1) ^^^ BitVec.ofInt 64 n).toNat : Int)=_
  have e : BitVec.ofInt 64 (-1)=BitVec.allOnes 64:=by decide
  rw [e,BitVec.allOnes_xor,BitVec.toNat_not,BitVec.toNat_ofInt,IntKind.wrap_i64]
  omega
theorem var_back (n : Nat) (w : World) (hn : n≤18446744073709551615) :
    Calls Tryz.prog 270 #[.int .u64 n] w fun e w'=>e = .returned (.int .i64 (back n))∧w=w':=by
  have hx:=not_i64 ((n : Int) / 2) (by omega) (by omega)
  rcases (by omega : n % 2=1∨n % 2=0) with h|h
  · have h' : ((n : Int) % 2 == 1)=true:=by simp;omega
    go_enter Tryz.func270,Tryz.ntmps270
    go_wp2
    go_ret
    refine ⟨ret_int ?_,rfl⟩
    unfold back;split <;> omega
  · have h' : ((n : Int) % 2 == 1)=false:=by simp;omega
    go_enter Tryz.func270,Tryz.ntmps270
    go_wp2
    go_ret
    refine ⟨ret_int ?_,rfl⟩
    unfold back;split <;> omega
theorem ref_back (n : Nat) (w : World) (hn : n≤18446744073709551615) :
    Calls Tryz.prog 142 #[.int .u64 n] w fun e w'=>e = .returned (.int .i64 (back n))∧w=w':=by
  rcases (by omega : n % 2=1∨n % 2=0) with h|h
  · have h' : ((n : Int) % 2 == 1)=true:=by simp;omega
    go_enter Tryz.func142,Tryz.ntmps142
    go_wp2
    go_ret
    refine ⟨ret_int ?_,rfl⟩
    unfold back;split <;> omega
  · have h' : ((n : Int) % 2 == 1)=false:=by simp;omega
    go_enter Tryz.func142,Tryz.ntmps142
    go_wp2
    go_ret
    refine ⟨ret_int ?_,rfl⟩
    unfold back;split <;> omega
theorem var_fits (i : Nat) (d : Int) (w : World) (b : Bool) (hb : b = !decide (9<i∨(i=9∧1<d))) :
    Calls Tryz.prog 268 #[.int .i64 i,.int .u8 d] w fun e w'=>e = .returned (.bool b)∧w=w':=by
  have Hb:=Lib.hid hb
  clear hb
  by_cases h : i=9
  · subst h
    go_enter Tryz.func268,Tryz.ntmps268
    go_wp2
    go_ret
    refine ⟨ret_bool ?_,rfl⟩
    rw [Hb.out,Bool.eq_iff_iff]
    simp
  · go_enter Tryz.func268,Tryz.ntmps268
    go_wp2
    go_ret
    refine ⟨ret_bool ?_,rfl⟩
    rw [Hb.out,Bool.eq_iff_iff]
    simp [h]
    omega
theorem shl_step (acc k c : Nat) (hk : k≤9) (ha : acc<128 ^ k) (h9 : k=9→c % 128≤1) :
    IntKind.u64.wrap ((acc : Int)+IntKind.u64.wrap ((c : Int) % 128*2 ^ (7*k)))=((acc+c % 128*128 ^ k : Nat) : Int)∧acc+c % 128*128 ^ k≤18446744073709551615∧(k+1≤9→acc+c % 128*128 ^ k<128 ^ (k+1)):=by
  have e1 : ((c : Int) % 128*2 ^ (7*k))=((c % 128*128 ^ k : Nat) : Int):=by
    rw [Int.pow_mul]
    simp
  have hc : c % 128*128 ^ k≤127*128 ^ k:=Nat.mul_le_mul_right _ (by omega)
  have hlt : acc+c % 128*128 ^ k<128 ^ (k+1):=by rw [Nat.pow_succ];omega
  have h9' : (128 : Nat) ^ 9=9223372036854775808:=by decide
  have hle : acc+c % 128*128 ^ k≤18446744073709551615:=by
    by_cases h : k=9
    · subst h
      have : c % 128*128 ^ 9≤1*128 ^ 9:=Nat.mul_le_mul_right _ (h9 rfl)
      omega
    · have : (128 : Nat) ^ (k+1)≤128 ^ 9:=Nat.pow_le_pow_right (by omega) (by omega)
      omega
  refine ⟨?_,hle,fun _=>hlt⟩
  rw [e1,IntKind.wrap_u64,IntKind.wrap_u64]
  omega
theorem ret_get {a b c : Int} {x y z : Nat} {g : Nat×Nat×Nat} (h : g=(x,y,z)) (ha : a=x) (hb : b=y) (hc : c=z) :
    Ending.returned (.tuple #[.int .u64 a,.int .i64 b,.int .i64 c]) = .returned (.tuple #[.int .u64 (g.1 : Nat),.int .i64 (g.2.1 : Nat),.int .i64 (g.2.2 : Nat)]):=by
  rw [h,ha,hb,hc]
theorem var_get (s : ByteArray) (w : World) (hs : s.size≤maxLen) :
    Calls Tryz.prog 244 #[.string s] w fun e w'=>e = .returned (.tuple #[.int .u64 ((get s.data.toList).1 : Nat),.int .i64 ((get s.data.toList).2.1 : Nat),.int .i64 ((get s.data.toList).2.2 : Nat)])∧w=w':=by
  unfold maxLen at hs
  go_enter Tryz.func244,Tryz.ntmps244
  go_wp2
  go_loop [5,10] (fun a i=>∃ k acc : Nat,k≤s.size∧i = .int .i64 k∧a = .int .u64 acc∧acc≤18446744073709551615∧(k≤9→acc<128 ^ k)∧Hid (go k acc (s.data.toList.drop k)=get s.data.toList)) (fun _ i=>s.size - (intOf i).toNat)
  case atStart=>exact ⟨0,0,Nat.zero_le _,rfl,rfl,by omega,by simp,rfl⟩
  case round =>
    obtain ⟨k,acc,hk,rfl,rfl,ha,hp,HG⟩:=hrel
    by_cases hlt : k<s.size
    · have hc:=(s[k]).toNat_lt
      by_cases hbad : k > 9∨(k=9∧s[k].toNat % 128 > 1)
      · have Hbad:=Lib.hid hbad
        have HB : Hid (false = !decide (9<k∨(k=9∧1<(s[k].toNat : Int) % 128))):=by show false=_;simp;omega
        clear hbad
        go_wp2_with (go_at_call 268;refine (var_fits _ _ _ false HB.out).mono ?_;rintro e w' ⟨rfl,rfl⟩)
        go_ret3
        have hd:=drop_cons s k hlt
        have hG:=HG.out
        rw [hd,go_bad Hbad.out] at hG
        exact ⟨ret_get hG.symm rfl rfl rfl,rfl⟩
      · have Hbad:=Lib.hid hbad
        have hk9 : k≤9:=by omega
        have HB : Hid (true = !decide (9<k∨(k=9∧1<(s[k].toNat : Int) % 128))):=by show true=_;simp;omega
        have hp':=hp hk9
        have HS:=Lib.hid (shl_step acc k s[k].toNat hk9 hp' (fun h=>by omega))
        have hd:=Lib.hid (drop_cons s k hlt)
        clear hbad
        go_wp2_with (go_at_call 268;refine (var_fits _ _ _ true HB.out).mono ?_;rintro e w' ⟨rfl,rfl⟩)
        · have h128 : 128 ≤ s[k].toNat := by have : (128 : Int) ≤ (s[k].toNat : Int) := by assumption
                                             omega
          have hG:=HG.out
          rw [hd.out,go_on Hbad.out h128] at hG
          go_round
          case rel=>exact ⟨k+1,_,by omega,by go_num,by rw [HS.out.1],HS.out.2.1,fun h=>HS.out.2.2 h,hG⟩
          case measure=>simp [intOf];omega
        · have h1 : s[k].toNat < 128 := by have : (s[k].toNat : Int) < 128 := by assumption
                                           omega
          have h2 : s[k].toNat = 0 := by have : (s[k].toNat : Int) % 128 = 0 := by assumption
                                         omega
          go_ret3
          have hG:=HG.out
          rw [hd.out,go_zero h2 (by omega)] at hG
          exact ⟨ret_get hG.symm rfl rfl rfl,rfl⟩
        · have h1 : s[k].toNat < 128 := by have : (s[k].toNat : Int) < 128 := by assumption
                                           omega
          go_ret3
          have hG:=HG.out
          rw [hd.out,go_end Hbad.out h1 (by omega)] at hG
          have h2 : (s[k].toNat : Int) % 128=0:=by assumption
          have hk0 : k=0:=by omega
          have h3 : s[k].toNat=0:=by omega
          have ha0 : acc=0:=by rw [hk0] at hp';simpa using hp'
          exact ⟨ret_get hG.symm (by rw [h3,ha0];simp [IntKind.wrap_u64]) (by omega) rfl,rfl⟩
        · have h1 : s[k].toNat < 128 := by have : (s[k].toNat : Int) < 128 := by assumption
                                           omega
          have h2 : ¬ (s[k].toNat : Int) % 128=0:=by assumption
          go_ret3
          have hG:=HG.out
          rw [hd.out,go_end Hbad.out h1 (by omega)] at hG
          exact ⟨ret_get hG.symm (by rw [HS.out.1,Nat.mod_eq_of_lt h1]) (by omega) rfl,rfl⟩
    · have hkl : s.size≤k:=by omega
      go_wp2
      go_ret3
      have hG:=HG.out
      rw [List.drop_eq_nil_of_le (by simpa using hkl),go_nil] at hG
      exact ⟨ret_get hG.symm rfl rfl rfl,rfl⟩
theorem ref_get (s : ByteArray) (w : World) (hs : s.size≤maxLen) :
    Calls Tryz.prog 140 #[.string s] w fun e w'=>e = .returned (.tuple #[.int .u64 ((get s.data.toList).1 : Nat),.int .i64 ((get s.data.toList).2.1 : Nat),.int .i64 ((get s.data.toList).2.2 : Nat)])∧w=w':=by
  unfold maxLen at hs
  go_enter Tryz.func140,Tryz.ntmps140
  go_wp2
  go_loop [5,6,7] (fun a o i=>∃ k acc one : Nat,k≤s.size∧i = .int .i64 k∧a = .int .u64 acc∧o = .int .u64 one∧acc≤18446744073709551615∧(k≤9→acc<128 ^ k)∧Hid (k≤9→one=128 ^ k)∧Hid (go k acc (s.data.toList.drop k)=get s.data.toList)) (fun _ _ i=>s.size - (intOf i).toNat)
  case atStart=>exact ⟨0,0,1,Nat.zero_le _,rfl,rfl,rfl,by omega,by simp,fun _=>rfl,rfl⟩
  case round =>
    obtain ⟨k,acc,one,hk,rfl,rfl,rfl,ha,hp,HO,HG⟩:=hrel
    by_cases hlt : k<s.size
    · have hc:=(s[k]).toNat_lt
      have hd:=Lib.hid (drop_cons s k hlt)
      by_cases hbad : k > 9∨(k=9∧s[k].toNat % 128 > 1)
      · have Hbad:=Lib.hid hbad
        have hfin : ∀ e,e=Ending.returned (.tuple #[.int .u64 0,.int .i64 0,.int .i64 2])→e = .returned (.tuple #[.int .u64 ((get s.data.toList).1 : Nat),.int .i64 ((get s.data.toList).2.1 : Nat),.int .i64 ((get s.data.toList).2.2 : Nat)]):=by
          intro e he
          have hG:=HG.out
          rw [hd.out,go_bad Hbad.out] at hG
          rw [he]
          exact ret_get hG.symm rfl rfl rfl
        by_cases h9 : k=9
        · have h9' : ((k : Int) == 9)=true:=by simp;omega
          have h1 : 1<(s[k].toNat : Int) % 128:=by omega
          clear hbad h9
          go_wp2
          go_ret3
          exact ⟨hfin _ rfl,rfl⟩
        · have h9' : ((k : Int) == 9)=false:=by simp;omega
          have h1 : 9<(k : Int):=by omega
          clear hbad h9
          go_wp2
          go_ret3
          exact ⟨hfin _ rfl,rfl⟩
      · have Hbad:=Lib.hid hbad
        have hk9 : k≤9:=by omega
        have hp':=hp hk9
        have HS:=Lib.hid (shl_step acc k s[k].toNat hk9 hp' (fun h=>by omega))
        have e7 : ((128 ^ k : Nat) : Int)=2 ^ (7*k):=by rw [Int.pow_mul];simp
        have HO1 : Hid (one=128 ^ k):=HO.out hk9
        have HE:=Lib.hid e7
        clear e7
        have hacc : ∀ z : Int,z=IntKind.u64.wrap ((acc : Int)+IntKind.u64.wrap ((s[k].toNat : Int) % 128*(one : Int)))→z=((acc+s[k].toNat % 128*128 ^ k : Nat) : Int):=by
          intro z hz
          rw [hz,HO1.out,HE.out]
          exact HS.out.1
        have Hacc:=Lib.hid hacc
        clear hacc
        have hrest : (9<(k : Int))=False:=by simp;omega
        by_cases h9 : k=9
        · have h9' : ((k : Int) == 9) = true := by simp; omega
          have h1 : (1<(s[k].toNat : Int) % 128)=False:=by simp;omega
          clear hbad h9
          go_wp2
          · have h1 : s[k].toNat < 128 := by have : (s[k].toNat : Int) < 128 := by assumption
                                             omega
            go_ret3
            have hG:=HG.out
            rw [hd.out,go_zero (by assumption) (by assumption)] at hG
            exact ⟨ret_get hG.symm rfl rfl rfl,rfl⟩
          · have h1 : s[k].toNat < 128 := by have : (s[k].toNat : Int) < 128 := by assumption
                                             omega
            have h3 : s[k].toNat=0:=by assumption
            have hk0 : k = 0 := by have : ¬ 0 < k := by assumption
                                   omega
            go_ret3
            have hG:=HG.out
            rw [hd.out,go_end Hbad.out h1 (by omega)] at hG
            have ha0 : acc=0:=by rw [hk0] at hp';simpa using hp'
            exact ⟨ret_get hG.symm (by rw [h3,ha0];simp [IntKind.wrap_u64]) (by omega) rfl,rfl⟩
          · have h1 : s[k].toNat < 128 := by have : (s[k].toNat : Int) < 128 := by assumption
                                             omega
            have h3 : ¬ s[k].toNat=0:=by assumption
            go_ret3
            have hG:=HG.out
            rw [hd.out,go_end Hbad.out h1 (by omega)] at hG
            exact ⟨ret_get hG.symm (by rw [Hacc.out _ rfl,Nat.mod_eq_of_lt h1]) (by omega) rfl,rfl⟩
          · have h128 : 128 ≤ s[k].toNat := by have : (128 : Int) ≤ (s[k].toNat : Int) := by assumption
                                               omega
            have hG:=HG.out
            rw [hd.out,go_on Hbad.out h128] at hG
            have hw : 0≤IntKind.u64.wrap ((one : Int)*128)∧(k+1≤9→(IntKind.u64.wrap ((one : Int)*128)).toNat=128 ^ (k+1)):=by
              rw [IntKind.wrap_u64]
              refine ⟨by omega,fun h=>?_⟩
              have hle : (128 : Nat) ^ (k+1)≤128 ^ 9:=Nat.pow_le_pow_right (by omega) h
              have h9' : (128 : Nat) ^ 9=9223372036854775808:=by decide
              have ho : one=128 ^ k:=HO1.out
              rw [Nat.pow_succ] at hle ⊢
              omega
            go_round
            case rel=>exact ⟨k+1,_,(IntKind.u64.wrap ((one : Int)*128)).toNat,by omega,by go_num,congrArg (Value.int .u64) (Hacc.out _ rfl),by rw [Int.toNat_of_nonneg hw.1],HS.out.2.1,HS.out.2.2,hw.2,hG⟩
            case measure=>simp [intOf];omega
        · have h9' : ((k : Int) == 9)=false:=by simp;omega
          clear hbad h9
          go_wp2
          · have h1 : s[k].toNat < 128 := by have : (s[k].toNat : Int) < 128 := by assumption
                                             omega
            go_ret3
            have hG:=HG.out
            rw [hd.out,go_zero (by assumption) (by assumption)] at hG
            exact ⟨ret_get hG.symm rfl rfl rfl,rfl⟩
          · have h1 : s[k].toNat < 128 := by have : (s[k].toNat : Int) < 128 := by assumption
                                             omega
            have h3 : s[k].toNat=0:=by assumption
            have hk0 : k = 0 := by have : ¬ 0 < k := by assumption
                                   omega
            go_ret3
            have hG:=HG.out
            rw [hd.out,go_end Hbad.out h1 (by omega)] at hG
            have ha0 : acc=0:=by rw [hk0] at hp';simpa using hp'
            exact ⟨ret_get hG.symm (by rw [h3,ha0];simp [IntKind.wrap_u64]) (by omega) rfl,rfl⟩
          · have h1 : s[k].toNat < 128 := by have : (s[k].toNat : Int) < 128 := by assumption
                                             omega
            have h3 : ¬ s[k].toNat=0:=by assumption
            go_ret3
            have hG:=HG.out
            rw [hd.out,go_end Hbad.out h1 (by omega)] at hG
            exact ⟨ret_get hG.symm (by rw [Hacc.out _ rfl,Nat.mod_eq_of_lt h1]) (by omega) rfl,rfl⟩
          · have h128 : 128 ≤ s[k].toNat := by have : (128 : Int) ≤ (s[k].toNat : Int) := by assumption
                                               omega
            have hG:=HG.out
            rw [hd.out,go_on Hbad.out h128] at hG
            have hw : 0≤IntKind.u64.wrap ((one : Int)*128)∧(k+1≤9→(IntKind.u64.wrap ((one : Int)*128)).toNat=128 ^ (k+1)):=by
              rw [IntKind.wrap_u64]
              refine ⟨by omega,fun h=>?_⟩
              have hle : (128 : Nat) ^ (k+1)≤128 ^ 9:=Nat.pow_le_pow_right (by omega) h
              have h9' : (128 : Nat) ^ 9=9223372036854775808:=by decide
              have ho : one=128 ^ k:=HO1.out
              rw [Nat.pow_succ] at hle ⊢
              omega
            go_round
            case rel=>exact ⟨k+1,_,(IntKind.u64.wrap ((one : Int)*128)).toNat,by omega,by go_num,congrArg (Value.int .u64) (Hacc.out _ rfl),by rw [Int.toNat_of_nonneg hw.1],HS.out.2.1,HS.out.2.2,hw.2,hG⟩
            case measure=>simp [intOf];omega
    · have hkl : s.size≤k:=by omega
      go_wp2
      go_ret3
      have hG:=HG.out
      rw [List.drop_eq_nil_of_le (by simpa using hkl),go_nil] at hG
      exact ⟨ret_get hG.symm rfl rfl rfl,rfl⟩
theorem var_getint (s : ByteArray) (w : World) (hs : s.size≤maxLen) :
    Calls Tryz.prog 248 #[.string s] w fun e w'=>e = .returned (.tuple #[.int .i64 (back (get s.data.toList).1),.int .i64 ((get s.data.toList).2.1 : Nat),.int .i64 ((get s.data.toList).2.2 : Nat)])∧w=w':=by
  have hg:=var_get s w hs
  have hle : (get s.data.toList).2.2=0→(get s.data.toList).1≤18446744073709551615:=fun h=>by
    have:=@get_spec s.data.toList (get s.data.toList).1 (get s.data.toList).2.1 (by rw [← h])
    exact this.2.2.2
  rcases get_err s.data.toList with h|h|h
  · have HL:=Lib.hid (hle h)
    clear hle
    generalize get s.data.toList=g at *
    obtain ⟨a,b,c⟩:=g
    simp only at h hg HL
    subst h
    have Hg:=Lib.hid hg
    clear hg
    go_enter Tryz.func248,Tryz.ntmps248
    go_wp2_with (first|(go_at_call 244;refine Hg.out.mono ?_;rintro e w' ⟨rfl,rfl⟩)|(go_at_call 270;refine (var_back _ _ HL.out).mono ?_;rintro e w' ⟨rfl,rfl⟩))
    go_ret3
    exact ⟨rfl,rfl⟩
  all_goals
    rw [h] at hg ⊢
    have Hg:=Lib.hid hg
    clear hg hle h
    go_enter Tryz.func248,Tryz.ntmps248
    go_wp2_with (first|(go_at_call 244;refine Hg.out.mono ?_;rintro e w' ⟨rfl,rfl⟩))
    go_ret3
    exact ⟨rfl,rfl⟩
end Go.Proofs.YtmimfkhkilijcaaGreatDoor
