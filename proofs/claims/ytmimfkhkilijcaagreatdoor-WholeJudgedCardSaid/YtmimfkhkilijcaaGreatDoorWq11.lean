/- Conf1: what is reached of them. -/
import Derived.Test.YtmimfkhkilijcaaGreatDoorWq10
import Derived.Test.YtmimfkhkilijcaaGreatDoorWq01
import Derived.Deep.DeepCutAuto
set_option linter.unusedVariables false
set_option linter.unusedSimpArgs false
set_option maxRecDepth 100000
set_option maxHeartbeats 8000000
namespace Go.Proofs.YtmimfkhkilijcaaGreatDoor
open Go.ChangeShapes Go.WideShapes Go.ChangeAt Go.RowKit
open PWord
open Go.Lib (itoa)
def NumPost (o : Option (List Int)) (w : World) (e : Ending) (w' : World) : Prop :=
  ∃ v,e = .returned (.tuple #[v,.bool o.isSome])∧Sl w.heap.size w' 1 v (o.getD []).length (iv (o.getD []))∧Below w.heap.size w w'
abbrev bl (ws : List ByteArray) : List (List UInt8):=ws.map (·.data.toList)
theorem bl_at {ws : List ByteArray} {k : Nat} (hk : k<ws.length) : bl ws=bl (ws.take k)++(ws[k].data.toList::bl (ws.drop (k+1))):=by
  have h1 : ws.take k++ws[k]::ws.drop (k+1)=ws:=by rw [← List.drop_eq_getElem_cons hk,List.take_append_drop]
  have h2:=congrArg bl h1
  simp only [bl,List.map_append,List.map_cons] at h2 ⊢
  exact h2.symm
theorem nums_stop {ws : List ByteArray} {k : Nat} (hk : k<ws.length) (h : PWord.numOf ws[k].data.toList=none) : nums (bl ws)=none:=by
  rw [bl_at hk,nums_append,nums_cons,h]
  cases nums (bl (ws.take k)) <;> rfl
theorem nums_go {ws : List ByteArray} {k : Nat} {xs : List Int} {n : Int} (hk : k<ws.length) (h1 : nums (bl (ws.take k))=some xs) (h : PWord.numOf ws[k].data.toList=some n) : nums (bl (ws.take (k+1)))=some (xs++[n]):=by
  have e : bl (ws.take (k+1))=bl (ws.take k)++[ws[k].data.toList]:=by
    rw [List.take_succ_eq_append_getElem hk]
    simp only [bl,List.map_append,List.map_cons,List.map_nil]
  rw [e,nums_append,h1,nums_cons,h]
  rfl
theorem cf_numbers (a : Option Addr) (n c : Nat) (ws : List ByteArray) (w : World) (he : EnvW w) (hr : RowS w a ws) (hn : n=ws.length) (hl : ws.length≤1000) (hs : ∀ s∈ws,s.size≤1000000) :
    Calls Tryz.prog 126 #[.slice a n c] w (NumPost (nums (bl ws)) w):=by
  have HN:=Lib.hid hn
  rw [← hn] at hl
  clear hn
  obtain ⟨i0,hi,hz0,hz1,hz2⟩:=info_parts info_int
  obtain ⟨o,ho⟩ : ∃ o,nums (bl ws)=o:=⟨_,rfl⟩
  rw [ho]
  have HO:=Lib.hid ho
  clear ho
  have HS:=Lib.hid hs
  clear hs
  have h0 : Sl w.heap.size w 1 (.slice none 0 0) 0 (iv []):=Sl.nil _ _ _
  have hB0:=Below.refl w.heap.size w
  go_enter Tryz.func126,Tryz.ntmps126
  go_wp2
  go_loopw [4,11] (fun l i wr=>∃ (k : Nat) (xs : List Int),i = .int .i64 k∧k≤n∧Hid (nums (bl (ws.take k))=some xs)∧Hid (xs.length=k)∧Sl w.heap.size wr 1 l k (iv xs)∧Below w.heap.size w wr) (fun _ i _=>n - (intOf i).toNat)
  case atStart=>exact ⟨0,[],rfl,Nat.zero_le _,rfl,rfl,h0,hB0⟩
  case round =>
    clear h0 hB0
    obtain ⟨k,xs,rfl,hk,HX,HXL,hsl,hb⟩:=hrel
    by_cases hlt : k<n
    · have hk1 : k<ws.length:=by rw [← HN.out];exact hlt
      obtain ⟨b,off,rfl,hbl,p0⟩:=(hr.below hb).at_ k hk1
      have hsz : ws[k].size≤1000000:=HS.out _ (List.getElem_mem hk1)
      have heW:=he.on hb
      have hm1 : k+1≤maxLen:=by unfold maxLen;omega
      have hwB : w.heap.size≤wr.heap.size:=hb.size
      have HSTOP:=Lib.hid (nums_stop (ws:=ws) hk1)
      have HGO:=Lib.hid (fun (n : Int)=>nums_go (n:=n) hk1 HX.out)
      generalize hwk : ws[k]=s at *
      clear hwk hk1 hr
      by_cases hok : ∃ m,Lib.atoiAll s.data.toList = .ok m
      · obtain ⟨m,hm⟩:=hok
        have hmb : in64 m:=Lib.atoiAll_bounds hm
        have hA:=li_atoi_ok s m hsz hm wr
        have HA:=Lib.hid hA
        have HI:=Lib.hid (fun w he=>li_itoa m hmb w he)
        have hno : PWord.numOf s.data.toList=if itoa m=s.data.toList then some m else none:=by unfold PWord.numOf;rw [hm]
        clear hA hm
        by_cases heq : itoa m=s.data.toList
        · rw [if_pos heq] at hno
          have hx1:=HGO.out m hno
          have HX1:=Lib.hid hx1
          obtain rfl : s=bstr (itoa m):=by rw [heq]
          clear hno hx1 heq HGO HSTOP
          generalize bstr (itoa m)=s at *
          go_wp2_with (first|(go_at_call 185;refine HA.out.mono ?_;rintro e w1 ⟨rfl,hb1⟩;have he1:=heW.on hb1;have hs1:=hsl.onW hb1)|(go_at_call 84;refine (HI.out _ he1).mono ?_;rintro e w2 ⟨rfl,hb2⟩;have hs2:=(hs1.onW hb2).alloc (.cells #[.int .i64 m] 3);have hw2 : w.heap.size≤w2.heap.size:=Nat.le_trans hwB (Nat.le_trans hb1.size hb2.size))|(at_builtin;refine wpList_append_sl _ rfl (.tmp 28) (.tmp 30) 106 106 rfl 3 i0 (.int .i64 0) 8 Tryz.underlying106 hi hz0 hz1 hz2 rfl rfl hs2 _ 1 [.int .i64 m] rfl (src_oneN Tryz.underlying106 _ (.int .i64 m) _ _ (by simp) rfl) hm1 (by omega) (by simp;omega) ?_;intro v1 w3 k1 k2 k3))
          go_roundw
          case rel=>exact ⟨k+1,xs++[m],by go_num,by omega,HX1.out,(by show _=_;rw [List.length_append,HXL.out];rfl),(by rw [iv_snoc];exact k1),((on_below (on_below hb hb1) hb2).alloc (by omega) _).upd k2 (by simp;omega) (fun i _ hi=>by have:=(hsl.lt i hi).1;omega)⟩
          case measure=>simp [intOf];omega
        · rw [if_neg heq] at hno
          obtain rfl : o=none:=by rw [← HO.out];exact HSTOP.out hno
          have hne : ((bstr (itoa m)).toList == s.toList)=false:=by
            rw [Lib.toList_data,Lib.toList_data,beq_eq_false_iff_ne]
            exact heq
          clear hno heq HGO HSTOP
          generalize bstr (itoa m)=t at *
          go_wp2_with (first|(go_at_call 185;refine HA.out.mono ?_;rintro e w1 ⟨rfl,hb1⟩;have he1:=heW.on hb1)|(go_at_call 84;refine (HI.out _ he1).mono ?_;rintro e w2 ⟨rfl,hb2⟩))
          go_ret2
          exact ⟨_,rfl,Sl.nil _ _ _,on_below (on_below hb hb1) hb2⟩
      · have hno : PWord.numOf s.data.toList=none:=by
          unfold PWord.numOf
          split
          · rename_i m hm;exact absurd ⟨m,hm⟩ hok
          · rfl
        obtain rfl : o=none:=by rw [← HO.out];exact HSTOP.out hno
        have hA:=li_atoi_none s hsz (fun n h=>hok ⟨n,h⟩) wr heW
        have HA:=Lib.hid hA
        clear hA hno hok HGO HSTOP
        go_wp2_with (first|(go_at_call 185;refine HA.out.mono ?_;rintro e w1 ⟨v,N,rfl,hb1⟩))
        go_ret2
        exact ⟨_,rfl,Sl.nil _ _ _,on_below hb hb1⟩
    · have hk2 : k=n:=by omega
      have ho2 : some xs=o:=by
        rw [← HO.out,← HX.out,List.take_of_length_le (by have:=HN.out;omega)]
      subst ho2
      have hxl:=HXL.out
      go_wp2
      go_ret2
      exact ⟨_,rfl,by simpa [hxl] using hsl,hb⟩
end Go.Proofs.YtmimfkhkilijcaaGreatDoor
