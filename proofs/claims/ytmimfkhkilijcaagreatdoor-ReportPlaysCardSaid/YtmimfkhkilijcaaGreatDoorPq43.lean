/- KFRef; KLogR: what is reached of them. -/
import Derived.Test.YtmimfkhkilijcaaGreatDoorPq27
import Derived.Deep.OwnRows
import Derived.Test.YtmimfkhkilijcaaGreatDoorPq16
import Derived.Test.YtmimfkhkilijcaaGreatDoorPq01
import Derived.Deep.LoopGhost
set_option linter.unusedVariables false
set_option linter.unusedSimpArgs false
set_option maxRecDepth 100000
set_option maxHeartbeats 8000000
namespace Go.Proofs.YtmimfkhkilijcaaGreatDoor
open Go.ChangeShapes Go.WideShapes Go.ChangeAt Go.RowKit
open PCrc
theorem Own.row (w : World) (cs : List Value) (e : TypeId) : Own (w.alloc (.cells cs.toArray e)) w.heap.size 0 cs.length (fun j=>cs.getD j undef):=by
  refine ⟨by simp,fun j hj=>?_,fun j hj=>?_⟩
  · rw [cell_of_row _ w.heap.size (0+j) _ e (0,0) (heap_alloc_new w _)]
    simp [hj]
  · have e0:=heap_alloc_new w (.cells cs.toArray e (0,0))
    simp only [World.frozen?,e0]
    simp
theorem Own.madeRow (w : World) (z : Value) (n : Nat) (e : TypeId) : Own (w.alloc (.cells (madeCells #[z] n) e)) w.heap.size 0 n (fun _=>z):=by
  refine ⟨by simp,fun j hj=>?_,fun j hj=>?_⟩
  · rw [cell_of_row _ w.heap.size (0+j) _ e (0,0) (heap_alloc_new w _)]
    simp [madeCells,hj,Nat.mod_one]
  · have e0:=heap_alloc_new w (.cells (madeCells #[z] n) e (0,0))
    simp only [World.frozen?,e0]
    simp
def pws : List Int:=[26,23,22,16,12,11,10,8,7,5,4,2,1,0]
theorem pw_hit (n k : Nat) (hk : k<14) (h : (n : Int)=pws.getD k 0) : pw n=1:=by
  have : ∀ k,k<14→pw (pws.getD k 0).toNat=1:=by decide
  have h2:=this k hk
  rw [← h] at h2
  exact h2
theorem pw_miss (n : Nat) (h : ∀ k,k<14→(n : Int)≠pws.getD k 0) : pw n=0:=by
  unfold pw
  rw [if_neg]
  intro hm
  have : ∀ n∈[26,23,22,16,12,11,10,8,7,5,4,2,1,0],∃ k,k<14∧((n : Nat) : Int)=pws.getD k 0:=by decide
  obtain ⟨k,hk,he⟩:=this n hm
  exact h k hk he
theorem ref_pow (z : Int) (n : Nat) (w : World) (hz : z=n) (hn : n≤31) :
    Calls Tryz.prog 238 #[.int .i64 z] w fun e w'=>e = .returned (.int .i64 (pw n : Nat))∧Below w.heap.size w w':=by
  subst hz
  have ho:=Own.row w (pws.map (.int .i64)) 3
  have hb : Below w.heap.size w (w.alloc (.cells (pws.map (.int .i64)).toArray 3)):=(Below.refl _ _).alloc (Nat.le_refl _) _
  go_enter Tryz.func238,Tryz.ntmps238
  go_wp2
  have HO:=Lib.hid ho
  clear ho
  generalize hw1 : w.alloc _=w1
  have ho : Own w1 w.heap.size 0 14 (fun j=>(pws.map (Value.int .i64)).getD j undef):=by rw [← hw1];exact HO.out
  have hb1 : Below w.heap.size w w1:=by rw [← hw1];exact hb
  clear hw1 HO hb
  go_loop [4] (fun i=>∃ k : Nat,k≤14∧i = .int .i64 k∧Hid (∀ j,j<k→(n : Int)≠pws.getD j 0)) (fun i=>14 - (intOf i).toNat)
  case atStart=>exact ⟨0,by omega,rfl,fun j hj=>by omega⟩
  case round =>
    obtain ⟨k,hk,rfl,HM⟩:=hrel
    by_cases hlt : k<14
    · have hc:=ho.cell k hlt
      have hv : (pws.map (Value.int .i64)).getD k undef = .int .i64 (pws.getD k 0):=by
        have : k<pws.length:=hlt
        simp [List.getD,this]
      rw [Nat.zero_add,hv] at hc
      clear hv
      generalize hx : pws.getD k 0=x at *
      by_cases he : x=(n : Int)
      · have he' : (x == (n : Int))=true:=by simpa using he
        go_wp2
        go_ret
        exact ⟨ret_int (by rw [pw_hit n k hlt (by rw [hx,he])];rfl),hb1⟩
      · have he' : (x == (n : Int))=false:=by simpa using he
        go_wp2
        go_round
        case rel=>exact ⟨k+1,by omega,by go_num,fun j hj=>by
          by_cases e : j=k
          · subst e;rw [hx];exact fun h=>he h.symm
          · exact HM.out j (by omega)⟩
        case measure=>simp [intOf];omega
    · go_wp2
      go_ret
      exact ⟨ret_int (by rw [pw_miss n (fun j hj=>HM.out j (by omega))];rfl),hb1⟩
theorem ref_bit (s : ByteArray) (i : Nat) (w : World) (hs : s.size≤maxLen) (hi : i<8*s.size) :
    Calls Tryz.prog 237 #[.string s,.int .i64 i] w fun e w'=>e = .returned (.int .i64 (tb s.data.toList i : Nat))∧w=w':=by
  unfold maxLen at hs
  have hq : i / 8<s.size:=by omega
  have hc:=(s[i / 8]).toNat_lt
  have htb : tb s.data.toList i=s[i / 8].toNat / 2 ^ (i % 8) % 2:=by
    unfold tb
    rw [List.getElem?_eq_getElem (by simpa using hq)]
    rfl
  have HT:=Lib.hid htb
  clear htb
  go_enter Tryz.func237,Tryz.ntmps237
  go_wp2
  go_loop [5,6] (fun c j=>∃ k x : Nat,k≤i % 8∧j = .int .i64 k∧c = .int .i64 x∧x<256∧Hid (x=s[i / 8].toNat / 2 ^ k)) (fun _ j=>i % 8 - (intOf j).toNat)
  case atStart=>exact ⟨0,s[i / 8].toNat,by omega,rfl,rfl,hc,by show _=_;simp⟩
  case round =>
    obtain ⟨k,x,hk,rfl,rfl,hx,HX⟩:=hrel
    by_cases hlt : k<i % 8
    · have hlt' : (k : Int)<(i : Int) % 8:=by omega
      go_wp2
      go_round
      case rel=>exact ⟨k+1,x / 2,by omega,by go_num,by go_num,by omega,by show _=_;rw [HX.out,Nat.pow_succ,Nat.div_div_eq_div_mul]⟩
      case measure=>simp [intOf];omega
    · have hlt' : ¬ (k : Int)<(i : Int) % 8:=by omega
      go_wp2
      go_ret
      refine ⟨ret_int ?_,rfl⟩
      rw [HT.out,show i % 8=k by omega,← HX.out]
      omega
theorem ref_sum (s : ByteArray) (w : World) (hs : s.size≤4096) :
    Calls Tryz.prog 197 #[.string s] w fun e w'=>e = .returned (.int .u32 (PCrc.sum s.data.toList : Nat))∧Below w.heap.size w w':=by
  obtain ⟨N,hN⟩ : ∃ N,8*s.size=N:=⟨_,rfl⟩
  have hmk:=run_make_row' (P:=Tryz.prog) 106 3 (.int .i64 0) 8 Tryz.underlying106 (by kernel_rfl) rfl .i64 .i64 (N+32) (by omega) (by omega)
  have hmk' : ∀ w,(Instr.makeSlice 106 (.int .i64 ((N : Int)+32)) (.int .i64 ((N : Int)+32))).run Tryz.prog w = .ok (.slice (some ⟨w.heap.size,0,none⟩) (N+32) (N+32)) (w.alloc (.cells (madeCells #[.int .i64 0] (N+32)) 3)):=hmk
  have hown:=Own.madeRow w (.int .i64 0) (N+32) 3
  have hbel : Below w.heap.size w (w.alloc (.cells (madeCells #[.int .i64 0] (N+32)) 3)):=(Below.refl _ _).alloc (Nat.le_refl _) _
  have HOWN:=Lib.hid hown
  have HBEL:=Lib.hid hbel
  have hNi : 8*(s.size : Int)=(N : Int):=by omega
  have hN8 : N≤32768:=by omega
  have hrow0:=fun j=>row_start s.data.toList j
  have HR0:=Lib.hid hrow0
  have htb0 : ∀ j,N≤j→tb s.data.toList j=0:=by
    intro j hj
    unfold tb
    rw [List.getElem?_eq_none (by simp;omega)]
    simp
  have HTB:=Lib.hid htb0
  have hfin : fin (fun k=>PCrc.row s.data.toList N (N+k)) 32=PCrc.sum s.data.toList:=by
    have h:=fin_sum s.data.toList
    rw [show 8*s.data.toList.length=N by simp;omega] at h
    exact h
  have HF:=Lib.hid hfin
  clear hown hbel hmk hrow0 htb0 hfin
  generalize hl : s.data.toList=l at *
  have HL:=Lib.hid hl
  clear hl
  go_enter Tryz.func197,Tryz.ntmps197
  go_wp2
  generalize hw1 : w.alloc _=w1
  have ho1 : Own w1 w.heap.size 0 (N+32) (fun x=>Value.int .i64 0):=by rw [← hw1];exact HOWN.out
  have hb1 : Below w.heap.size w w1:=by rw [← hw1];exact HBEL.out
  clear hw1 HOWN HBEL hmk'
  go_loopw [5] (fun i wr=>∃ k : Nat,k≤N∧i = .int .i64 k∧Own wr w.heap.size 0 (N+32) (fun j=>if j<k then .int .i64 (tb l j : Nat) else .int .i64 0)∧Below w.heap.size w wr) (fun i _=>N - (intOf i).toNat)
  case atStart=>exact ⟨0,by omega,rfl,ho1.congr (fun j hj=>by simp),hb1⟩
  case round =>
    obtain ⟨k,hk,rfl,ho,hb⟩:=hrel
    clear ho1 hb1
    by_cases hlt : k<N
    · have hc:=ho.cell k (by omega)
      have hf:=ho.free k (by omega)
      have hlt2:=ho.lt
      have hset:=ho.fill (by omega)
      have hbit:=ref_bit s k wr (by unfold maxLen;omega) (by omega)
      rw [HL.out] at hbit
      rw [Nat.zero_add] at hc hf hset
      rw [if_neg (by omega)] at hc
      have HSET:=Lib.hid hset
      have HB:=Lib.hid hbit
      clear hset hbit
      go_wp2_with (first|(go_at_call 237;refine HB.out.mono ?_;rintro e w' ⟨rfl,rfl⟩))
      go_roundw
      case rel=>exact ⟨k+1,by omega,by go_num,HSET.out,hb.setCell (by simp) _⟩
      case measure=>simp [intOf];omega
    · have ho2 : Own wr w.heap.size 0 (N+32) (fun j=>.int .i64 (tb l j : Nat)):=ho.congr (fun j hj=>by
        by_cases e : j<k
        · rw [if_pos e]
        · rw [if_neg e,HTB.out j (by omega)];rfl)
      clear ho
      go_wp2
      go_loopw [6] (fun i wx=>∃ k : Nat,k≤32∧i = .int .i64 k∧Own wx w.heap.size 0 (N+32) (fun j=>if j<k then .int .i64 (PCrc.row l 0 j : Nat) else .int .i64 (tb l j : Nat))∧Below w.heap.size w wx) (fun i _=>32 - (intOf i).toNat)
      case atStart=>exact ⟨0,by omega,rfl,ho2.congr (fun j hj=>by simp),hb⟩
      case round =>
        obtain ⟨k,hk,rfl,ho,hb⟩:=hrel
        clear ho2
        by_cases hlt : k<32
        · have hc:=ho.cell k (by omega)
          have hf:=ho.free k (by omega)
          have hlt2:=ho.lt
          have hset:=ho.fill (by omega)
          have hsub : (1 : Int) - (tb l k : Nat)=(PCrc.row l 0 k : Nat):=by
            rw [HR0.out k,if_pos hlt]
            have:=tb_lt l k
            omega
          rw [Nat.zero_add] at hc hf hset
          rw [if_neg (by omega)] at hc
          have HSET:=Lib.hid hset
          clear hset
          go_wp2
          go_roundw
          case rel=>exact ⟨k+1,by omega,by go_num,HSET.out,hb.setCell (by simp) _⟩
          case measure=>simp [intOf];omega
        · have ho3 : Own _ w.heap.size 0 (N+32) (fun j=>.int .i64 (PCrc.row l 0 j : Nat)):=ho.congr (fun j hj=>by
            by_cases e : j<k
            · rw [if_pos e]
            · rw [if_neg e,HR0.out j,if_neg (by omega)])
          clear ho
          go_wp2
          go_loopw [7,8] (fun i m wx=>∃ (k : Nat) (f : Nat→Nat),k≤N∧i = .int .i64 k∧Own wx w.heap.size 0 (N+32) (fun j=>.int .i64 (f j : Nat))∧Hid (∀ j,k≤j→f j=PCrc.row l k j)∧Below w.heap.size w wx) (fun i _ _=>N - (intOf i).toNat)
          case atStart=>exact ⟨0,_,by omega,rfl,ho3,fun j hj=>rfl,hb⟩
          case round =>
            obtain ⟨k,f,hk,rfl,ho,HFK,hb⟩:=hrel
            clear ho3
            by_cases hlt : k<N
            · have hc:=ho.cell k (by omega)
              have hlt2:=ho.lt
              rw [Nat.zero_add] at hc
              have hfk:=HFK.out k (Nat.le_refl _)
              have hr2:=row_lt l k k
              rcases (by omega : PCrc.row l k k=1∨PCrc.row l k k=0) with h1|h0
              · have HH1:=Lib.hid h1
                rw [hfk,h1] at hc
                clear hfk h1 hr2
                have hc' : wr.cell? ⟨w.heap.size,k,none⟩=some (.int .i64 1):=hc
                clear hc
                go_wp2
                go_loopw [8] (fun i wx=>∃ (m : Nat) (f : Nat→Nat),1≤m∧m≤33∧i = .int .i64 m∧Own wx w.heap.size 0 (N+32) (fun j=>.int .i64 (f j : Nat))∧Hid (∀ j,k<j→f j=if j<k+m then PCrc.row l (k+1) j else PCrc.row l k j)∧Below w.heap.size w wx) (fun i _=>33 - (intOf i).toNat)
                case atStart=>exact ⟨1,f,by omega,by omega,rfl,ho,fun j hj=>by rw [if_neg (by omega)];exact HFK.out j (by omega),hb⟩
                case round =>
                  clear ho hb hc' HFK
                  obtain ⟨m,f,hm1,hm,rfl,ho,HFM,hb⟩:=hrel
                  by_cases hlm : m≤32
                  · have hc:=ho.cell (k+m) (by omega)
                    have hf:=ho.free (k+m) (by omega)
                    have hlt3:=ho.lt
                    have hpw:=fun w'=>ref_pow (32 - (m : Int)) (32 - m) w' (by omega) (by omega)
                    have hx:=HFM.out (k+m) (by omega)
                    rw [if_neg (by omega)] at hx
                    have hone:=row_one l k m HH1.out hm1 hlm
                    have hr3:=row_lt l k (k+m)
                    have hp3:=pw_lt (32 - m)
                    have HO1:=Lib.hid hone
                    rw [Nat.zero_add] at hc hf
                    rw [hx] at hc
                    clear hone hx
                    have HPW:=Lib.hid hpw
                    clear hpw
                    have hcx : wr.cell? ⟨w.heap.size,k+m,none⟩=some (.int .i64 (PCrc.row l k (k+m) : Nat)):=hc
                    clear hc
                    generalize PCrc.row l k (k+m)=x at *
                    generalize hpe : PCrc.pw (32 - m)=pe at *
                    have hws : IntKind.i64.wrap ((k : Int)+(m : Int))=(k : Int)+(m : Int):=by rw [IntKind.wrap_i64];omega
                    have hws2 : IntKind.i64.wrap (32 - (m : Int))=32 - (m : Int):=by rw [IntKind.wrap_i64];omega
                    have hws3 : IntKind.i64.wrap ((x : Int)+(pe : Int))=(x : Int)+(pe : Int):=by rw [IntKind.wrap_i64];omega
                    have hi1 : (k : Int)+(m : Int)<(N : Int)+32:=by omega
                    have hi0 : 0≤(k : Int)+(m : Int):=by omega
                    have hkm : k+m=((k : Int)+(m : Int)).toNat:=by omega
                    rw [hkm] at hcx hf
                    clear hkm
                    go_wp2
                    go_region_with (first|(go_at_call 238;refine (HPW.out _).mono ?_;rintro e w2 ⟨rfl,hb2⟩;have hcy:=cell_on hb2 hcx hlt3;have hfy:=free_on hb2 hf hlt3))
                    all_goals
                      have ho2:=(ho.drew.below hb2 hlt3).set (k+m) (by omega) (.int .i64 (PCrc.row l (k+1) (k+m) : Nat))
                      have hv : ((x : Int)+(pe : Int)).tmod 2=(PCrc.row l (k+1) (k+m) : Nat):=by
                        rw [Int.tmod_eq_emod_of_nonneg (by omega),HO1.out]
                        omega
                      have hb3 : Below w.heap.size w w2:=hb.drew.trans (hb2.mono hb.size)
                      have ho3 : Own (w2.setCell ⟨w.heap.size,((k : Int)+(m : Int)).toNat,none⟩ (.int .i64 (((x : Int)+(pe : Int)).tmod 2))) w.heap.size 0 (N+32) (fun j=>.int .i64 ((if j=k+m then PCrc.row l (k+1) (k+m) else f j : Nat) : Int)):=by
                        rw [hv,show ((k : Int)+(m : Int)).toNat=k+m by omega]
                        rw [Nat.zero_add] at ho2
                        exact ho2.congr (fun j hj=>by by_cases e : j=k+m <;> simp [e])
                      clear hv ho2 hcy hfy hcx hf hws hws2 hws3
                      go_wp2
                      go_roundw
                      case rel=>exact ⟨m+1,_,by omega,by omega,by go_num,ho3,fun j hj=>by
                        by_cases e : j=k+m
                        · rw [if_pos e,e,if_pos (by omega)]
                        · rw [if_neg e,HFM.out j hj]
                          by_cases e2 : j<k+m
                          · rw [if_pos e2,if_pos (by omega)]
                          · rw [if_neg e2,if_neg (by omega)],hb3.setCell (by simp) _⟩
                      case measure=>simp [intOf];omega
                  · obtain rfl : m=33:=by omega
                    go_wp2
                    go_roundw
                    case rel=>exact ⟨k+1,f,by omega,by go_num,ho,fun j hj=>by
                      rw [HFM.out j (by omega)]
                      by_cases e : j<k+33
                      · rw [if_pos e]
                      · rw [if_neg e,row_one_far l k j (by omega)],hb⟩
                    case measure=>simp [intOf];omega
              · have HH0:=Lib.hid h0
                rw [hfk,h0] at hc
                clear hfk h0 hr2
                have hc' : wr.cell? ⟨w.heap.size,k,none⟩=some (.int .i64 0):=hc
                clear hc
                go_wp2
                go_roundw
                case rel=>exact ⟨k+1,f,by omega,by go_num,ho,fun j hj=>by rw [HFK.out j (by omega),row_zero l k j HH0.out (by omega)],hb⟩
                case measure=>simp [intOf];omega
            · obtain rfl : k=N:=by omega
              have ho4 : Own wr w.heap.size 0 (k+32) (fun j=>.int .i64 (f j : Nat)):=ho
              have HF2 : Hid (∀ j,k≤j→f j=PCrc.row l k j):=HFK
              clear ho HFK
              go_wp2
              go_loop [9,10] (fun o i=>∃ (m : Nat) (q : Int),m≤32∧q+m=31∧i = .int .i64 q∧o = .int .u32 (fin (fun j=>PCrc.row l k (k+j)) m : Nat)) (fun _ i=>(intOf i+1).toNat)
              case atStart=>exact ⟨0,31,by omega,by omega,rfl,rfl⟩
              case round =>
                obtain ⟨m,q,hm,hq,rfl,rfl⟩:=hrel
                by_cases h0 : 0≤q
                · obtain ⟨p,rfl⟩:=Int.eq_ofNat_of_zero_le h0
                  have hp : p=31 - m:=by omega
                  have hc:=ho4.cell (k+p) (by omega)
                  have hlt3:=ho4.lt
                  rw [Nat.zero_add,HF2.out (k+p) (by omega)] at hc
                  have hr2:=row_lt l k (k+p)
                  have hfl:=fin_lt (fun j=>PCrc.row l k (k+j)) m
                  have hpow : 2 ^ m≤2 ^ 31:=Nat.pow_le_pow_right (by omega) (by omega)
                  have hnext : fin (fun j=>PCrc.row l k (k+j)) (m+1)=fin (fun j=>PCrc.row l k (k+j)) m*2+(1 - PCrc.row l k (k+p)):=by rw [fin,hp]
                  have HN:=Lib.hid hnext
                  clear hnext hp
                  have hfl2 : fin (fun j=>PCrc.row l k (k+j)) m<2147483648:=by omega
                  clear hfl hpow
                  generalize fin (fun j=>PCrc.row l k (k+j)) m=a at *
                  generalize PCrc.row l k (k+p)=x at *
                  go_wp2
                  go_round
                  case rel=>exact ⟨m+1,(p : Int) - 1,by omega,by omega,rfl,by rw [HN.out];try go_num⟩
                  case measure=>simp [intOf] <;> omega
                · have hm32 : m=32:=by omega
                  go_wp2
                  go_ret
                  refine ⟨ret_int ?_,hb⟩
                  rw [HF.out]
theorem ref_seal (s : ByteArray) (w : World) (hs : s.size≤4096) :
    Calls Tryz.prog 141 #[.string s] w fun e w'=>e = .returned (.string (bstr (sld s.data.toList)))∧Below w.heap.size w w':=by
  have hsum:=ref_sum s w hs
  have hn0:=sum_lt s.data.toList
  have hfin : s++bstr (four (PCrc.sum s.data.toList))=bstr (sld s.data.toList):=bstr_cat s _
  generalize PCrc.sum s.data.toList=n0 at *
  have HS:=Lib.hid hsum
  have HF:=Lib.hid hfin
  clear hsum hfin
  have hmk:=fun w=>run_make_row' (P:=Tryz.prog) 79 5 (.int .u8 0) 1 Tryz.underlying79 (by kernel_rfl) rfl .i64 .i64 4 (by omega) (by omega) w
  have hmk' : ∀ w,(Instr.makeSlice 79 (.int .i64 4) (.int .i64 4)).run Tryz.prog w = .ok (.slice (some ⟨w.heap.size,0,none⟩) 4 4) (w.alloc (.cells (madeCells #[.int .u8 0] 4) 5)):=hmk
  clear hmk
  go_enter Tryz.func141,Tryz.ntmps141
  go_wp2_with (first|(go_at_call 197;refine HS.out.mono ?_;rintro e w1 ⟨rfl,hb⟩))
  clear HS
  have hown:=Own.madeRow w1 (.int .u8 0) 4 5
  have hbel : Below w.heap.size w (w1.alloc (.cells (madeCells #[.int .u8 0] 4) 5)):=hb.alloc hb.size _
  have hlt:=hb.size
  generalize hw2 : w1.alloc _=w2 at *
  clear hw2 hmk' hb
  go_loopw [3,5] (fun x i wx=>∃ (m a : Nat) (q : Int),m≤4∧q+m=3∧i = .int .i64 q∧x = .int .u32 a∧a≤n0∧Hid (a=n0 / 256 ^ m)∧Own wx w1.heap.size 0 4 (fun j=>if 3<j+m then .int .u8 (n0 / 256 ^ (3 - j) % 256 : Nat) else .int .u8 0)∧Below w.heap.size w wx) (fun _ i _=>(intOf i+1).toNat)
  case atStart=>exact ⟨0,n0,3,by omega,by omega,rfl,rfl,Nat.le_refl _,(by show _=_;simp),hown.congr (fun j hj=>by rw [if_neg (by omega)]),hbel⟩
  case round =>
    clear hown hbel
    obtain ⟨m,a,q,hm,hq,rfl,rfl,han,HA,ho,hb⟩:=hrel
    by_cases h0 : 0≤q
    · obtain ⟨p,rfl⟩:=Int.eq_ofNat_of_zero_le h0
      have hp : 3 - p=m:=by omega
      have hc:=ho.cell p (by omega)
      have hf:=ho.free p (by omega)
      have hset:=ho.set p (by omega) (.int .u8 (a % 256 : Nat))
      have hlt3:=ho.lt
      rw [Nat.zero_add] at hc hf hset
      rw [if_neg (by omega)] at hc
      have HSET:=Lib.hid hset
      have HP:=Lib.hid hp
      clear hset hp
      go_wp2
      go_roundw
      case rel=>exact ⟨m+1,a / 256,(p : Int) - 1,by omega,by omega,by go_num,by go_num,by omega,(by show _=_;rw [HA.out,Nat.pow_succ,Nat.div_div_eq_div_mul]),HSET.out.congr (fun j hj=>by
        show (if j=p then _ else _)=_
        by_cases e : j=p
        · rw [if_pos e,if_pos (by omega),e,HP.out,HA.out]
        · rw [if_neg e]
          by_cases e2 : 3<j+m
          · rw [if_pos e2,if_pos (by omega)]
          · rw [if_neg e2,if_neg (by omega)]),hb.setCell (by simp;omega) _⟩
      case measure=>simp [intOf] <;> omega
    · have hm4 : m=4:=by omega
      have kc:=own_string (P:=Tryz.prog) ho (four n0) (by rw [four_len];omega) (fun j hj=>by
        rw [if_pos (by omega)]
        rw [four_len] at hj
        match j,hj with
        | 0,_=>simp [four]
        | 1,_=>simp [four]
        | 2,_=>simp [four]
        | 3,_=>simp [four]) 4 79 9 5 Tryz.underlying79 Tryz.underlying5 Tryz.underlying9
      rw [four_len] at kc
      have h4:=four_len n0
      go_wp2
      go_ret
      exact ⟨by rw [HF.out];rfl,hb⟩
open PVar PFrame
theorem cons_of_len {α : Type} : ∀ l : List α,0<l.length→∃ c tl,l=c::tl
  | [],h=>by simp at h
  | c::tl,_=>⟨c,tl,rfl⟩
abbrev gotV (r : R) (n e : Int) : Value:=.agg #[.int .i64 r.1,.int .i64 r.2.1,.string (bstr r.2.2),.int .i64 n,.int .i64 e]
theorem ref_fget (s : ByteArray) (w : World) (hs : s.size≤4000) :
    Calls Tryz.prog 96 #[.string s] w fun e w'=>e = .returned (gotV (fget s.data.toList).1 (fget s.data.toList).2.1 (fget s.data.toList).2.2)∧Below w.heap.size w w':=by
  have hg:=fun w=>ref_get s w (by unfold maxLen;omega)
  have hsl : s.data.toList.length=s.size:=by simp
  have hbel : Below w.heap.size w (w.alloc (.cells #[.int .i64 0,.int .i64 0,.string ⟨#[]⟩,.int .i64 0,.int .i64 0] 149)):=(Below.refl _ _).alloc (Nat.le_refl _) _
  have hat:=At.alloc w [.int .i64 0,.int .i64 0,.string ⟨#[]⟩,.int .i64 0,.int .i64 0] 149
  by_cases h1 : (get s.data.toList).2.2≠0
  · have h0 : get s.data.toList=(0,0,(get s.data.toList).2.2):=by
      rcases get_err s.data.toList with h|h|h
      · exact absurd h h1
      all_goals rw [h]
    have e : fget s.data.toList=(zr,0,(get s.data.toList).2.2):=by unfold fget;rw [if_pos h1]
    rw [e]
    rw [h0] at hg
    generalize (get s.data.toList).2.2=er at *
    have HG:=Lib.hid hg
    have h1' : ((er : Int) == 0)=false:=by simpa using h1
    clear hg h0 e
    go_enter Tryz.func96,Tryz.ntmps96
    go_wp2_with (first|(go_at_call 140;refine (HG.out _).mono ?_;rintro e w1 ⟨rfl,rfl⟩))
    go_returns
    exact ⟨rfl,(Below.refl _ _).alloc (Nat.le_refl _) _⟩
  have e1 : (get s.data.toList).2.2=0:=Decidable.not_not.1 h1
  obtain ⟨s1,_,s3,s4⟩:=@get_spec s.data.toList (get s.data.toList).1 (get s.data.toList).2.1 (by rw [← e1])
  have hdl:=digs_len s4
  rw [← s1] at hdl
  rw [e1] at hg
  unfold fget
  rw [if_neg h1]
  clear h1 e1 s1
  generalize (get s.data.toList).1=k at *
  generalize (get s.data.toList).2.1=n at *
  rw [hsl] at s3 ⊢
  have HG:=Lib.hid hg
  clear hg
  by_cases h2 : k<2∨65536<k
  · rw [if_pos h2]
    go_enter Tryz.func96,Tryz.ntmps96
    go_wp2_with (first|(go_at_call 140;refine (HG.out _).mono ?_;rintro e w1 ⟨rfl,rfl⟩))
    all_goals
      go_returns
      exact ⟨rfl,(Below.refl _ _).alloc (Nat.le_refl _) _⟩
  rw [if_neg h2]
  by_cases h3 : s.size<n+k+4
  · rw [if_pos h3]
    go_enter Tryz.func96,Tryz.ntmps96
    go_wp2_with (first|(go_at_call 140;refine (HG.out _).mono ?_;rintro e w1 ⟨rfl,rfl⟩))
    go_returns
    exact ⟨rfl,(Below.refl _ _).alloc (Nat.le_refl _) _⟩
  rw [if_neg h3]
  have hcut1:=fun w=>cut_run (P:=Tryz.prog) w 9 s n (n+k) n (n+k) rfl (by omega) Tryz.underlying9 (by omega) (by omega)
  have hcut2:=fun w=>cut_run (P:=Tryz.prog) w 9 s n (n+k+4) n (n+k+4) rfl (by omega) Tryz.underlying9 (by omega) (by omega)
  rw [show n+k+4 - n=k+4 by omega] at hcut2
  rw [show n+k - n=k by omega] at hcut1
  have hBl : ((s.data.toList.drop n).take k).length=k:=by rw [List.length_take,List.length_drop,hsl];omega
  generalize (s.data.toList.drop n).take (k+4)=C at *
  generalize (s.data.toList.drop n).take k=Bd at *
  have HSEAL : Hid (∀ w,Calls Tryz.prog 141 #[.string (bstr Bd)] w fun e w'=>e = .returned (.string (bstr (sld Bd)))∧Below w.heap.size w w'):=fun w=>ref_seal (bstr Bd) w (by rw [size_bstr];omega)
  have h2a : ¬ k<2:=fun h=>h2 (.inl h)
  have h2b : ¬ 65536<k:=fun h=>h2 (.inr h)
  have hk2 : 2≤k:=by omega
  have hwr1 : IntKind.i64.wrap ((n : Int)+k)=n+k:=by rw [IntKind.wrap_i64];omega
  have hwr2 : IntKind.i64.wrap ((n : Int)+k+4)=n+k+4:=by rw [IntKind.wrap_i64];omega
  clear h2
  by_cases h4 : sld Bd≠C
  · rw [if_pos h4]
    generalize sld Bd=SB at *
    have hne : (SB == C)=false:=by simpa using h4
    go_enter Tryz.func96,Tryz.ntmps96
    go_wp2_with (first|(go_at_call 140;refine (HG.out _).mono ?_;rintro e w1 ⟨rfl,rfl⟩))
    generalize w.alloc _=w1 at *
    go_region_with (first|(go_at_call 141;refine (HSEAL.out _).mono ?_;rintro e w2 ⟨rfl,b2⟩;have hb2:=on_below hbel.drew b2;have hat2:=hat.drew.on b2;obtain ⟨hl2,q0,f0,q1,f1,q2,f2,q3,f3,q4,f4⟩:=hat2.five;obtain ⟨p0,p1,p2,p3,p4⟩:=hat2.put5))
    go_wp2
    refine bodyPost_ret (v:=gotV zr 0 5) (by simp [results,Tryz.results96,go_sem,p0,p1,p2,p3,p4,zr]) rfl ⟨rfl,((((hb2.setCell (Nat.le_refl _) _).setCell (Nat.le_refl _) _).setCell (Nat.le_refl _) _).setCell (Nat.le_refl _) _).setCell (Nat.le_refl _) _⟩
  rw [if_neg h4]
  have h4' : sld Bd=C:=Decidable.not_not.1 h4
  rw [h4'] at HSEAL
  clear h4 h4'
  have heq : (C == C)=true:=by simp
  obtain ⟨c,tl,rfl⟩:=cons_of_len Bd (by omega)
  have hc8:=c.toNat_lt
  have hsb : (bstr (c::tl)).size=tl.length+1:=by rw [size_bstr];simp
  have hidx : (bstr (c::tl))[0]'(by omega)=c:=rfl
  rw [rget_cons]
  have hfrom:=fun w=>from_run (P:=Tryz.prog) w 9 (bstr (c::tl)) 1 1 rfl Tryz.underlying9 (by omega)
  rw [show (bstr (c::tl)).data.toList.drop 1=tl from rfl] at hfrom
  by_cases h5 : c.toNat≠1∧c.toNat≠2
  · simp only [if_pos h5]
    have hc1 : ((c.toNat : Int) != 1)=true:=by simp;omega
    have hc2 : ((c.toNat : Int) != 2)=true:=by simp;omega
    have hc3 : ¬ (c.toNat : Int)=1:=by omega
    go_enter Tryz.func96,Tryz.ntmps96
    go_wp2_with (first|(go_at_call 140;refine (HG.out _).mono ?_;rintro e w1 ⟨rfl,rfl⟩))
    generalize w.alloc _=w1 at *
    go_region_with (first|(go_at_call 141;refine (HSEAL.out _).mono ?_;rintro e w2 ⟨rfl,b2⟩;have hb2:=on_below hbel.drew b2;have hat2:=hat.drew.on b2;obtain ⟨hl2,q0,f0,q1,f1,q2,f2,q3,f3,q4,f4⟩:=hat2.five;obtain ⟨p0,p1,p2,p3,p4⟩:=hat2.put5))
    go_wp2
    refine bodyPost_ret (v:=gotV zr 0 3) (by simp [results,Tryz.results96,go_sem,p0,p1,p2,p3,p4,zr]) rfl ⟨rfl,((((hb2.setCell (Nat.le_refl _) _).setCell (Nat.le_refl _) _).setCell (Nat.le_refl _) _).setCell (Nat.le_refl _) _).setCell (Nat.le_refl _) _⟩
  simp only [if_neg h5]
  have hgt:=fun w=>ref_get (bstr tl) w (by rw [size_bstr];unfold maxLen;simp at hBl;omega)
  rw [show (bstr tl).data.toList=tl from rfl] at hgt
  have hsp:=@get_spec tl (get tl).1 (get tl).2.1
  have hge:=get_err tl
  have hfr2:=fun (m : Nat) (hm : m≤tl.length) w=>from_run (P:=Tryz.prog) w 9 (bstr (c::tl)) (1+m) (1+m) (by omega) Tryz.underlying9 (by omega)
  have htail : ∀ m,(bstr (c::tl)).data.toList.drop (1+m)=tl.drop m:=fun m=>by
    show (c::tl).drop (1+m)=_
    rw [Nat.add_comm,List.drop_succ_cons]
  simp only [htail] at hfr2
  have hc5 : c.toNat=1∨c.toNat=2:=by omega
  clear h5 htail
  generalize get tl=g at *
  obtain ⟨m,j,er⟩:=g
  simp only at hge hgt hsp ⊢
  by_cases h6 : er=0
  · subst h6
    obtain ⟨t1,t2,t3,t4⟩:=hsp rfl
    have hfr3:=hfr2 j t3
    have HGT:=Lib.hid hgt
    have hj0 : (j : Int)≤tl.length:=by omega
    have hwz1 : IntKind.i64.wrap 1=1:=by decide
    have hwz2 : IntKind.i64.wrap 2=2:=by decide
    have hwr4 : IntKind.i64.wrap (1+(j : Int))=1+j:=by rw [IntKind.wrap_i64];simp at hBl;omega
    clear hgt hsp hge t1 t2 hfr2
    simp only [if_neg (show ¬ ((0 : Nat)≠0) by simp)]
    rcases hc5 with hc5|hc5
    all_goals
      go_enter Tryz.func96,Tryz.ntmps96
      go_wp2_with (first|(go_at_call 140;first|((with_reducible refine (HG.out _).mono ?_);rintro e w1 ⟨rfl,rfl⟩)|((with_reducible refine (HGT.out _).mono ?_);rintro e w1 ⟨rfl,rfl⟩)))
      generalize w.alloc _=w1 at *
      go_region_with (first|(go_at_call 141;refine (HSEAL.out _).mono ?_;rintro e w2 ⟨rfl,b2⟩;have hb2:=on_below hbel.drew b2;have hat2:=hat.drew.on b2;obtain ⟨hl2,q0,f0,q1,f1,q2,f2,q3,f3,q4,f4⟩:=hat2.five;obtain ⟨p0,p1,p2,p3,p4⟩:=hat2.put5))
      go_wp2_with (first|(go_at_call 140;first|((with_reducible refine (HG.out _).mono ?_);rintro e w1 ⟨rfl,rfl⟩)|((with_reducible refine (HGT.out _).mono ?_);rintro e w1 ⟨rfl,rfl⟩)))
      go_region_with (first|(go_at_call 142;refine (ref_back m _ t4).mono ?_;rintro e w4 ⟨rfl,rfl⟩))
      all_goals
        go_wp2
        rw [hc5]
        refine bodyPost_ret (v:=gotV (_,back m,tl.drop j) (n+k+4 : Nat) 0) (by simp [results,Tryz.results96,go_sem,p0,p1,p2,p3,p4,hwz1,hwz2]) rfl ⟨rfl,(((((hb2.setCell (Nat.le_refl _) _).setCell (Nat.le_refl _) _).setCell (Nat.le_refl _) _).setCell (Nat.le_refl _) _).setCell (Nat.le_refl _) _).drew⟩
  · have h6' : ((er : Int) == 0)=false:=by simpa using h6
    have hg0 : m=0∧j=0:=by
      rcases hge with h|h|h
      · exact absurd h h6
      · simp at h;omega
      · simp at h;omega
    obtain ⟨rfl,rfl⟩:=hg0
    have HGT:=Lib.hid hgt
    clear hgt hsp hge hfr2
    simp only [if_pos h6]
    rcases hc5 with hc5|hc5
    all_goals
      go_enter Tryz.func96,Tryz.ntmps96
      go_wp2_with (first|(go_at_call 140;first|((with_reducible refine (HG.out _).mono ?_);rintro e w1 ⟨rfl,rfl⟩)|((with_reducible refine (HGT.out _).mono ?_);rintro e w1 ⟨rfl,rfl⟩)))
      generalize w.alloc _=w1 at *
      go_region_with (first|(go_at_call 141;refine (HSEAL.out _).mono ?_;rintro e w2 ⟨rfl,b2⟩;have hb2:=on_below hbel.drew b2;have hat2:=hat.drew.on b2;obtain ⟨hl2,q0,f0,q1,f1,q2,f2,q3,f3,q4,f4⟩:=hat2.five;obtain ⟨p0,p1,p2,p3,p4⟩:=hat2.put5))
      go_wp2_with (first|(go_at_call 140;first|((with_reducible refine (HG.out _).mono ?_);rintro e w1 ⟨rfl,rfl⟩)|((with_reducible refine (HGT.out _).mono ?_);rintro e w1 ⟨rfl,rfl⟩)))
      refine bodyPost_ret (v:=gotV zr 0 er) (by simp [results,Tryz.results96,go_sem,p0,p1,p2,p3,p4,zr]) rfl ⟨rfl,((((hb2.setCell (Nat.le_refl _) _).setCell (Nat.le_refl _) _).setCell (Nat.le_refl _) _).setCell (Nat.le_refl _) _).setCell (Nat.le_refl _) _⟩
theorem info_rec : (Tryz.prog.info? 54).map (fun i=>(i.zero,i.size,i.bytes))=some (some (.agg #[.int .i64 0,.int .i64 0,.string ⟨#[]⟩]),3,32):=by kernel_rfl
theorem src_rec {P : Program} {tx e' : TypeId} (hk : P.underlying tx=some (.slice e')) (w : World) (r : R) (e : TypeId) : Src P 3 tx (.slice (some ⟨w.heap.size,0,none⟩) 1 1) 1 (rcells r) (w.alloc (.cells (rcells r).toArray e)):=by
  refine Src.ofSlice _ hk ⟨w.heap.size,0,none⟩ 1 1 (rcells r) rfl (fun j x hx=>?_) (fun x hx=>?_)
  · have ha:=At.alloc w (rcells r) e
    have hj:=(List.getElem?_eq_some_iff.1 hx)
    obtain ⟨hj,rfl⟩:=hj
    rw [Addr.add_lit,Nat.zero_add]
    exact (ha.2 j hj).1
  · simp [rcells] at hx
    rcases hx with rfl|rfl|rfl <;> rfl
theorem src_recN {P : Program} {tx e' : TypeId} (hk : P.underlying tx=some (.slice e')) (w : World) (r : R) (e : TypeId) (N : Nat) (hN : w.heap.size=N) : Src P 3 tx (.slice (some ⟨N,0,none⟩) 1 1) 1 (rcells r) (w.alloc (.cells (rcells r).toArray e)):=by
  subst hN
  exact src_rec hk w r e
theorem drop_size (s : ByteArray) (k : Nat) : (bstr (s.data.toList.drop k)).size=s.size - k:=by rw [size_bstr,List.length_drop];simp
theorem Sl.cap {B : Nat} {w : World} {size : Nat} {a : Option Addr} {n m c : Nat} {xs : List Value} (h : Sl B w size (.slice a n c) m xs) : n≤c∧c≤maxLen:=by
  rcases h.2 with ⟨h1,h2⟩|⟨g,off,cap,h1,h2,h3,h4,h5,_⟩
  · cases h1;exact ⟨Nat.le_refl _,Nat.zero_le _⟩
  · cases h1;exact ⟨h4,h5⟩
def GotPost2 (w : World) (p : List R×Nat×Nat) (e : Ending) (w' : World) : Prop :=
  ∃ a c,e = .returned (.agg #[.slice a p.1.length c,.int .i64 p.2.1,.int .i64 p.2.2])∧RowR w' a p.1∧Below w.heap.size w w'∧(∀ q,a=some q→w.heap.size≤q.block)∧p.1.length≤c∧c≤maxLen
def GotAt (w : World) (s : ByteArray) (m : Nat) (wr : World) : Prop :=
  ∃ (rs : List R) (k : Nat) (a : Option Addr) (c : Nat),m+k=s.size∧Sl (w.heap.size+2) wr 3 (.slice a rs.length c) rs.length (rv rs)∧(∀ r∈rs,(-9223372036854775808≤r.1∧r.1≤9223372036854775807)∧(-9223372036854775808≤r.2.1∧r.2.1≤9223372036854775807))∧rs.length≤k ∧
    Below w.heap.size w wr∧w.heap.size+2≤wr.heap.size∧At wr w.heap.size [.slice none 0 0,.int .i64 0,.int .i64 0]∧At wr (w.heap.size+1) [.slice a rs.length c,.int .i64 k,.int .i64 0] ∧
    parse s.data.toList=(rs++(parse (s.data.toList.drop k)).1,k+(parse (s.data.toList.drop k)).2.1,(parse (s.data.toList.drop k)).2.2)
theorem row_of_sl {B : Nat} {w : World} {a : Option Addr} {n c : Nat} {rs : List R} (h : Sl B w 3 (.slice a n c) n (rv rs)) (hn : n=rs.length) (ht : ∀ r∈rs,(-9223372036854775808≤r.1∧r.1≤9223372036854775807)∧(-9223372036854775808≤r.2.1∧r.2.1≤9223372036854775807)) : RowR w a rs:=by
  obtain ⟨_,a',c',hv,hr⟩:=RowR.of_sl h ht
  cases hv
  exact hr
theorem ref_parse2 (s : ByteArray) (w : World) (hs : s.size≤4000) :
    Calls Tryz.prog 50 #[.string s] w (GotPost2 w (parse s.data.toList)):=by
  have hsl : s.data.toList.length=s.size:=by simp
  obtain ⟨i0,hi,hz0,hz1,hz2⟩:=info_parts info_rec
  go_enter Tryz.func50,Tryz.ntmps50
  go_wp2
  go_loopg [] s.size (fun m wr=>GotAt w s m wr)
  case atStart =>
    have h1:=At.alloc w [.slice none 0 0,.int .i64 0,.int .i64 0] 98
    have h2:=At.alloc (w.alloc (.cells #[.slice none 0 0,.int .i64 0,.int .i64 0] 98)) [.slice none 0 0,.int .i64 0,.int .i64 0] 98
    simp only [World.size_alloc] at h2
    refine ⟨[],0,none,0,by omega,Sl.nil _ _ _,by simp,Nat.le_refl _,((Below.refl _ w).alloc (Nat.le_refl _) _).alloc (by simp) _,by simp,h1.on ((Below.refl _ _).alloc (Nat.le_refl _) _),h2,by simp⟩
  case round =>
    obtain ⟨rs,k,a,c,hmk,hsl3,hbd,hrk,hb,hb2,hat1,hat2,hp⟩:=hrel
    obtain ⟨hl1,p0,f0,p1,f1,p2,f2⟩:=hat1.three
    obtain ⟨hl2,q0,g0,q1,g1,q2,g2⟩:=hat2.three
    have HP:=Lib.hid hp
    clear hp
    by_cases hlt : k<s.size
    · have hfrom:=fun w=>from_run (P:=Tryz.prog) w 9 s k k rfl Tryz.underlying9 (by omega)
      have hget:=fun w=>ref_fget (bstr (s.data.toList.drop k)) w (by rw [drop_size];omega)
      rw [show (bstr (s.data.toList.drop k)).data.toList=s.data.toList.drop k from rfl] at hget
      have hne : s.data.toList.drop k≠[]:=by
        intro h
        have:=congrArg List.length h
        rw [List.length_drop] at this
        simp at this
        omega
      rcases fget_err (s.data.toList.drop k) with he|⟨er,he,h1,h5⟩
      · obtain ⟨r,n,e0,hf⟩ : ∃ r n e,fget (s.data.toList.drop k)=(r,n,e):=⟨_,_,_,rfl⟩
        rw [hf] at he
        simp only at he
        subst he
        obtain ⟨o1,o2,o3,o4⟩:=fget_ok hf
        have hlen : (s.data.toList.drop k).length=s.size - k:=by rw [List.length_drop];omega
        have hn0:=encR_pos r
        rw [← o3] at hn0
        have hkn : k+n≤s.size:=by omega
        have hm:=parse_more hf
        rw [hf] at hget
        have hp:=HP.out
        rw [hm,List.drop_drop] at hp
        have hp2 : parse s.data.toList=((rs++[r])++(parse (s.data.toList.drop (k+n))).1,(k+n)+(parse (s.data.toList.drop (k+n))).2.1,(parse (s.data.toList.drop (k+n))).2.2):=by
          rw [hp,List.append_assoc,Nat.add_assoc];rfl
        have hr1 : -9223372036854775808≤r.1∧r.1≤9223372036854775807:=by have:=err_kind o1.1;omega
        have hbd' : ∀ x∈rs++[r],(-9223372036854775808≤x.1∧x.1≤9223372036854775807)∧(-9223372036854775808≤x.2.1∧x.2.1≤9223372036854775807):=by
          intro x hx
          rcases List.mem_append.1 hx with h|h
          · exact hbd x h
          · simp at h;subst h;exact ⟨hr1,o1.2⟩
        have HPP:=Lib.hid hp2
        have HBD:=Lib.hid hbd'
        have HG:=Lib.hid hget
        clear hp hp2 hm hf hget hbd' o1 o2 o3 o4 hlen hr1 hbd
        obtain ⟨r1,r2,r3⟩:=r
        go_wp2_with (first|(go_at_call 96;refine (HG.out _).mono ?_;rintro e w2 ⟨rfl,b2⟩;have hb3:=on_below hb b2;have hatA:=hat1.on b2;have hatB:=hat2.on b2;have hsl4:=hsl3.on b2;obtain ⟨hm1,p0',f0',p1',f1',p2',f2'⟩:=hatA.three;obtain ⟨hm2,q0',g0',q1',g1',q2',g2'⟩:=hatB.three)|(at_builtin;refine wpList_append_sl _ rfl (.tmp 24) (.tmp 27) 60 60 rfl 54 i0 _ 32 Tryz.underlying60 hi hz0 hz1 hz2 rfl rfl ((hsl4.alloc _).alloc _) _ 1 _ rfl (src_recN Tryz.underlying60 _ (r1,r2,r3) _ _ (by simp)) (by unfold maxLen;omega) (by omega) (by have:=hb3.size;simp;omega) ?_;intro v1 w3 k1 k2 k3;obtain ⟨a1,c1,hv1⟩:=k1.shape;subst hv1;have hatA3:=((hatA.on ((Below.refl _ w2).alloc (Nat.le_refl _) _)).on ((Below.refl _ _).alloc (Nat.le_refl _) _)).upd k2 (fun e=>by have:=(hsl4.lt _ e).1;omega);have hatB3:=((hatB.on ((Below.refl _ w2).alloc (Nat.le_refl _) _)).on ((Below.refl _ _).alloc (Nat.le_refl _) _)).upd k2 (fun e=>by have:=(hsl4.lt _ e).1;omega);have hatG3:=((At.alloc w2 [.int .i64 r1,.int .i64 r2,.string (bstr r3),.int .i64 n,.int .i64 0] 149).on ((Below.refl _ _).alloc (Nat.le_refl _) _)).upd k2 (fun e=>by have:=(hsl4.lt _ e).2;omega);obtain ⟨hx2,x0,y0,x1,y1,x2,y2⟩:=hatB3.three;obtain ⟨hz2',z0,_,z1,_,z2,_,z3,_,z4,_⟩:=hatG3.five))
        have e1 : (rs++[(r1,r2,r3)]).length=rs.length+1:=by simp
        have e2 : rv (rs++[(r1,r2,r3)])=rv rs++rcells (r1,r2,r3):=by rw [rv_append];show _++(_++[])=_;rw [List.append_nil]
        have hbx:=((hb3.alloc hb3.size (.cells #[.int .i64 r1,.int .i64 r2,.string (bstr r3),.int .i64 n,.int .i64 0] 149)).alloc (by have:=hb3.size;simp;omega) (.cells (rcells (r1,r2,r3)).toArray 54)).upd k2 (by have:=hb3.size;simp;omega) (fun i _ h=>by have:=(hsl4.lt i h).1;omega)
        have hby:=(hbx.setCell (p:=⟨w.heap.size+1,0,none⟩) (by simp) (.slice a1 (rs.length+1) c1)).setCell (p:=⟨w.heap.size+1,1,none⟩) (by simp) (.int .i64 ((k : Int)+n))
        have hAt1:=(hatA3.set_other (p:=⟨w.heap.size+1,0,none⟩) (by simp) (.slice a1 (rs.length+1) c1)).set_other (p:=⟨w.heap.size+1,1,none⟩) (by simp) (.int .i64 ((k : Int)+n))
        have hAt2:=(hatB3.set 0 (by simp) (.slice a1 (rs.length+1) c1)).set 1 (by simp) (.int .i64 ((k : Int)+n))
        have hSl:=(k1.set_other (p:=⟨w.heap.size+1,0,none⟩) (by simp) (.slice a1 (rs.length+1) c1)).set_other (p:=⟨w.heap.size+1,1,none⟩) (by simp) (.int .i64 ((k : Int)+n))
        go_roundg (gk - n)
        case measure=>omega
        case rel =>
          refine ⟨rs++[(r1,r2,r3)],k+n,a1,c1,by omega,?_,HBD.out,by rw [e1];omega,hby,by have:=hAt2.1;omega,hAt1,?_,HPP.out⟩
          · rw [e1,e2]
            exact hSl
          · rw [e1]
            exact hAt2
      · have hbad:=parse_bad hne (by rw [he];simp;omega)
        rw [he] at hget hbad
        have HG:=Lib.hid hget
        have he0 : ((er : Int) == 0)=false:=by simp;omega
        have he1 : ((er : Int) != 0)=true:=by simp;omega
        have hp:=HP.out
        rw [hbad] at hp
        simp only [List.append_nil,Nat.add_zero] at hp
        have HPP:=Lib.hid hp
        clear hget hbad he hp
        go_wp2_with (first|(go_at_call 96;refine (HG.out _).mono ?_;rintro e w2 ⟨rfl,b2⟩;have hb3:=on_below hb b2;have hatA:=hat1.on b2;have hatB:=hat2.on b2;have hsl4:=hsl3.on b2;obtain ⟨hm1,p0',f0',p1',f1',p2',f2'⟩:=hatA.three;obtain ⟨hm2,q0',g0',q1',g1',q2',g2'⟩:=hatB.three;have hpp2 : ∀ x,(w2.setCell ⟨w.heap.size+1,2,none⟩ x).cell? ⟨w.heap.size+1,2,none⟩=some x:=fun x=>((hatB.set 2 (by simp) x).2 2 (by simp)).1))
        obtain ⟨P0,P1,P2⟩:=(hatA.set_other (p:=⟨w.heap.size+1,2,none⟩) (by simp) (.int .i64 er)).put3
        refine bodyPost_ret (v:=.agg #[.slice a rs.length c,.int .i64 k,.int .i64 er]) (by simp [results,Tryz.results50,go_sem,P0,P1,P2,hm1]) rfl ?_
        rw [HPP.out]
        have hbl:=(((hb3.setCell (p:=⟨w.heap.size+1,2,none⟩) (by simp) (.int .i64 er)).setCell (p:=⟨w.heap.size,0,none⟩) (Nat.le_refl _) (.slice a rs.length c)).setCell (p:=⟨w.heap.size,1,none⟩) (Nat.le_refl _) (.int .i64 k)).setCell (p:=⟨w.heap.size,2,none⟩) (Nat.le_refl _) (.int .i64 er)
        exact ⟨a,c,rfl,row_of_sl (((((hsl4.set_other (by simp) _).set_other (by simp) _).set_other (by simp) _).set_other (by simp) _).alloc _) rfl hbd,hbl.alloc hbl.size _,fun q e=>by subst e;have:=(hsl4.lt _ rfl).1;omega,hsl4.cap⟩
    · obtain rfl : k=s.size:=by omega
      have hp:=HP.out
      rw [List.drop_eq_nil_of_le (by omega),parse_nil] at hp
      simp only [List.append_nil,Nat.add_zero] at hp
      have HPP:=Lib.hid hp
      obtain ⟨P0,P1,P2⟩:=hat1.put3
      clear hp
      go_wp2
      refine bodyPost_ret (v:=.agg #[.slice a rs.length c,.int .i64 s.size,.int .i64 0]) (by simp [results,Tryz.results50,go_sem,P0,P1,P2]) rfl ?_
      rw [HPP.out]
      exact ⟨a,c,rfl,row_of_sl (((hsl3.set_other (by simp) _).set_other (by simp) _).set_other (by simp) _) rfl hbd,((hb.setCell (Nat.le_refl _) _).setCell (Nat.le_refl _) _).setCell (Nat.le_refl _) _,fun q e=>by subst e;have:=(hsl3.lt _ rfl).1;omega,hsl3.cap⟩
end Go.Proofs.YtmimfkhkilijcaaGreatDoor
