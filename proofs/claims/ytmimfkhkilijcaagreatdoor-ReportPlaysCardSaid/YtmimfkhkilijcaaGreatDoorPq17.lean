/- QHas: what is reached of them. -/
import Derived.Test.YtmimfkhkilijcaaGreatDoorPq07
set_option linter.unusedVariables false
set_option linter.unusedSimpArgs false
set_option maxRecDepth 100000
set_option maxHeartbeats 8000000
namespace Go.Proofs.YtmimfkhkilijcaaGreatDoor
open Go.ChangeShapes Go.WideShapes Go.ChangeAt Go.RowKit
open PSign PHex PQuote
theorem hasn_drop (l : List Int) (n : Int) (k : Nat) (hk : k<l.length) (hn : 0≤n) (hne : l[k]≠n) : hasn (l.drop k) n=hasn (l.drop (k+1)) n:=by
  rw [List.drop_eq_getElem_cons hk]
  unfold hasn
  have h1 : n∈l[k]::l.drop (k+1)↔n∈l.drop (k+1):=by
    rw [List.mem_cons]
    exact ⟨fun h=>h.resolve_left fun h=>hne h.symm,Or.inr⟩
  exact decide_eq_decide.2 (and_congr_right fun _=>h1)
theorem ref_has (s : ByteArray) (n : Int) (w : World) (hs : s.size≤4096) :
    Calls Tryz.prog 99 #[.string s,.int .i64 n] w fun e w'=>e = .returned (.bool (hasn (signs s.data.toList) n))∧Below w.heap.size w w':=by
  have hsig:=ref_signs s w hs
  have hlen:=signs_len s.data.toList
  have hl2 : s.data.toList.length=s.size:=by simp
  rw [hl2] at hlen
  clear hl2
  have HSIG:=Lib.hid hsig
  clear hsig
  generalize signs s.data.toList=l at *
  have hl4 : l.length≤4096:=by omega
  clear hlen
  go_enter Tryz.func99,Tryz.ntmps99
  go_wp2_with (first|(go_at_call 91;refine HSIG.out.mono ?_;rintro e w1 ⟨v,rfl,hsl,hb1⟩))
  obtain ⟨-,a,c,rfl,hint⟩:=hsl.ints
  have HINT:=Lib.hid hint
  clear hsl HSIG hint
  go_wp2
  go_loopw [6] (fun i wr=>∃ k : Nat,k≤l.length∧i = .int .i64 k∧Hid (hasn l n=hasn (l.drop k) n)∧Below w1.heap.size w1 wr) (fun i _=>l.length - (intOf i).toNat)
  case atStart=>exact ⟨0,Nat.zero_le _,rfl,rfl,Below.refl _ _⟩
  case round =>
    obtain ⟨k,hk,rfl,HK,hb⟩:=hrel
    by_cases hlt : k<l.length
    · obtain ⟨b,off,rfl,hbb,hc⟩:=HINT.out k hlt
      have hcx : wr.cell? ⟨b,off+k,none⟩=some (.int .i64 l[k]):=cell_on hb hc hbb
      clear hc
      by_cases hz : l[k]=n
      · by_cases hn : 0≤n
        · have hres : Hid (hasn l n=true):=by
            show _=_
            unfold hasn
            rw [decide_eq_true_iff]
            exact ⟨hn,hz▸List.getElem_mem hlt⟩
          clear HK
          generalize l[k]=z at *
          subst hz
          go_wp2
          go_ret
          exact ⟨by rw [hres.out];rfl,on_below hb1 hb⟩
        · have hd : decide (0≤n)=false:=by simp [hn]
          have hres : Hid (hasn l n=hasn (l.drop (k+1)) n):=by
            show _=_
            unfold hasn
            simp [hn]
          have hn' : n<0:=by omega
          clear HK
          generalize l[k]=z at *
          subst hz
          go_wp2
          go_roundw
          case rel=>exact ⟨k+1,by omega,by go_num,hres,hb⟩
          case measure=>simp [intOf];omega
      · have hres : 0≤n→hasn l n=hasn (l.drop (k+1)) n:=fun hn=>by rw [HK.out,hasn_drop l n k hlt hn hz]
        have hres2 : Hid (hasn l n=hasn (l.drop (k+1)) n):=by
          show _=_
          by_cases hn : 0≤n
          · exact hres hn
          · unfold hasn;simp [hn]
        clear HK hres
        generalize l[k]=z at *
        go_wp2
        go_roundw
        case rel=>exact ⟨k+1,by omega,by go_num,hres2,hb⟩
        case measure=>simp [intOf];omega
    · have hkl : k=l.length:=by omega
      subst hkl
      go_wp2
      go_ret
      exact ⟨by rw [HK.out];simp [hasn],on_below hb1 hb⟩
end Go.Proofs.YtmimfkhkilijcaaGreatDoor
