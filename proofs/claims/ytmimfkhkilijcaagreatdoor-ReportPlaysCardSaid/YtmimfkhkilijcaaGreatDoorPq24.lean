/- KAlign: what is reached of them. -/
import Derived.Test.YtmimfkhkilijcaaGreatDoorPq14
import Derived.Test.YtmimfkhkilijcaaGreatDoorPq11
import Derived.Test.YtmimfkhkilijcaaGreatDoorPq01
import Derived.Laws.IdiomCopy
import Derived.BigRegion
import Derived.WalkKit
import Derived.ProofKit
import Derived.OpenShut
import Derived.Handy
import Derived.IntWalk
import Derived.Outline
import Derived.WalkLawsBesides
import Derived.Deep.DeepCutAuto
import Derived.Deep.OwnRows
import Derived.Test.YtmimfkhkilijcaaGreatDoorPq22
import Derived.Test.YtmimfkhkilijcaaGreatDoorPq20
import Derived.BigQuiet
import Derived.Deep.QuietTactic
set_option linter.unusedVariables false
set_option linter.unusedSimpArgs false
set_option maxRecDepth 100000
set_option maxHeartbeats 8000000
namespace PAlign
def btw (L : Nat→Int) (a b : Int) : Nat→List Int
  | 0=>[]
  | n+1=>btw L a b n++(if a<L n∧L n≤b then [(n : Int)] else [])
theorem btw_len (L : Nat→Int) (a b : Int) : ∀ n,(btw L a b n).length≤n
  | 0=>Nat.le_refl _
  | n+1=>by
    have:=btw_len L a b n
    unfold btw
    rw [List.length_append]
    split <;> simp <;> omega
theorem btw_mem (L : Nat→Int) (a b : Int) : ∀ n x,x∈btw L a b n→∃ j : Nat,x=j∧j<n∧a<L j∧L j≤b
  | 0,x,h=>by cases h
  | n+1,x,h=>by
    unfold btw at h
    rcases List.mem_append.1 h with h|h
    · obtain ⟨j,h1,h2,h3⟩:=btw_mem L a b n x h
      exact ⟨j,h1,by omega,h3⟩
    · split at h
      · rename_i hc
        simp at h
        exact ⟨n,h,by omega,hc⟩
      · cases h
end PAlign
namespace Go.Proofs.YtmimfkhkilijcaaGreatDoor
open Go.ChangeShapes Go.WideShapes Go.ChangeAt Go.RowKit
theorem mask32 (n : Nat) (hn : n<4294967296) : bits .and .u64 (n : Int) 4294967295=(n : Int):=by
  show IntKind.u64.wrap ((BitVec.ofInt 64 n &&& BitVec.ofInt 64 4294967295).toNat : Int)=_
  rw [BitVec.ofInt_natCast,BitVec.toNat_and,BitVec.toNat_ofNat,Nat.mod_eq_of_lt (by omega),show (BitVec.ofInt 64 4294967295).toNat=2 ^ 32 - 1 from rfl,Nat.and_two_pow_sub_one_eq_mod,IntKind.wrap_u64]
  omega
theorem mul_one64 (n : Nat) (hn : n≤1048576) (w : World) :
    Calls Tryz.prog 243 #[.int .u64 1,.int .u64 n] w fun e w'=>e = .returned (.tuple #[.int .u64 0,.int .u64 n])∧w=w':=by
  have h1 : bits .and .u64 1 4294967295=1:=mask32 1 (by omega)
  have h2:=mask32 n (by omega)
  have h3 : bits .and .u64 0 4294967295=0:=mask32 0 (by omega)
  have hd : (n : Int) / 4294967296=0:=by omega
  have hw : IntKind.u64.wrap (n : Int)=n:=by simp only [IntKind.wrap_u64];omega
  have hw0 : IntKind.u64.wrap 0=0:=by decide
  go_enter Tryz.func243,Tryz.ntmps243
  go_wp2
  go_ret2
  exact ⟨rfl,rfl⟩
theorem mul_one (n : Nat) (hn : n≤1048576) (w : World) :
    Calls Tryz.prog 204 #[.int .u64 1,.int .u64 n] w fun e w'=>e = .returned (.tuple #[.int .u64 0,.int .u64 n])∧w=w':=by
  have HM:=Lib.hid (mul_one64 n hn w)
  go_enter Tryz.func204,Tryz.ntmps204
  go_wp2_with (go_at_call 243;(with_reducible refine HM.out.mono ?_);rintro e w1 ⟨rfl,rfl⟩)
  go_ret2
  exact ⟨rfl,rfl⟩
theorem At.alloc2 {w : World} {g : Nat} {l : List Value} (h : At w g l) (o : Obj) : At (w.alloc o) g l:=h.upd (S:=fun _=>False) ((Upd.refl _ _).alloc o) id
theorem own_rowI (w : World) (z : Value) (n : Nat) (e : TypeId) : Own (w.alloc (.cells (madeCells #[z] n) e)) w.heap.size 0 n (fun _=>z):=by
  refine ⟨by simp,fun j hj=>?_,fun j hj=>?_⟩
  · rw [cell_of_row _ w.heap.size (0+j) _ e (0,0) (heap_alloc_new w _)]
    simp [madeCells,hj,Nat.mod_one]
  · have e0:=heap_alloc_new w (.cells (madeCells #[z] n) e (0,0))
    simp only [World.frozen?,e0]
    simp
theorem run_rep {w : World} {g n k : Nat} {X Z : Value} (h : Own w g 0 n (fun j=>if j<k then X else Z)) (hkn : k≤n) (m : Nat) (hmn : k+m≤n) (sLen sCap dCap : Nat) (hm : m=Nat.min sLen (n - k)) (a : Addr) (hsrc : ∀ j,j<m→w.cell? (a.add j)=some X) (h1 : X.oneCell'=true) (ty : TypeId)
    (hu : Tryz.prog.underlying 106=some (.slice 3)) (hs : (Tryz.prog.info? 3).map (·.size)=some 1) :
    (Builtin.copy_ #[106,106] ty #[.slice (some ⟨g,k,none⟩) (n - k) dCap,.slice (some a) sLen sCap]).run Tryz.prog w = .ok (goInt m) (w.setCells g k (List.replicate m X)) ∧
    Own (w.setCells g k (List.replicate m X)) g 0 n (fun j=>if j<k+m then X else Z)∧Upd (fun b=>b=g) w (w.setCells g k (List.replicate m X)):=by
  have hu2:=upd_setCells g k (List.replicate m X) w
  have hc : ∀ j,j<m→w.cell? ⟨g,k+j,none⟩=some Z:=fun j hj=>by
    have:=h.cell (k+j) (by omega)
    rw [Nat.zero_add,if_neg (by omega)] at this
    exact this
  refine ⟨?_,⟨Nat.lt_of_lt_of_le h.lt hu2.size,fun j hj=>?_,fun j hj=>?_⟩,hu2⟩
  · have hl:=run_loadCells_list (P:=Tryz.prog) w a (List.replicate m X) (fun j v hj=>by
      obtain ⟨hj1,rfl⟩:=List.getElem?_eq_some_iff.1 hj
      rw [List.getElem_replicate]
      exact hsrc j (by simpa using hj1))
    have hst:=run_storeCells_cells (P:=Tryz.prog) g k (List.replicate m X) 0 w (fun j hj=>by rw [Nat.add_zero,hc j (by simpa using hj)];rfl) (fun j hj=>by
      have hj' : j<m:=by simpa using hj
      have:=h.free (k+j) (by omega)
      rw [Nat.zero_add] at this
      rw [Nat.add_zero];exact this) (fun u hu=>by rw [List.eq_of_mem_replicate hu];exact h1)
    cases hq : Tryz.prog.info? 3 with
    | none=>simp [hq] at hs
    | some i =>
      have hi : i.size=1:=by simpa [hq] using hs
      rw [List.length_replicate] at hl
      simp [Builtin.copy_,run_underlying hu,Builtin.lenOf,Builtin.firstCells,sizeOf,typeInfo,hq,hi,← hm,hl,hst]
  · by_cases h2 : k≤j∧j<k+m
    · have:=cell_setCells_in g (List.replicate m X) k w (fun i' hi'=>by rw [hc i' (by simpa using hi')];rfl) (j - k) (by simp;omega)
      rw [show k+(j - k)=0+j by omega] at this
      rw [this,List.getElem?_replicate,if_pos (by omega),if_pos (by omega)]
    · rw [World.cell?_setCells_out g _ _ w _ (fun _ _=>by simp;omega),h.cell j hj]
      by_cases h3 : j<k
      · rw [if_pos h3,if_pos (by omega)]
      · rw [if_neg h3,if_neg (by omega)]
  · rw [frozen_setCells]
    exact h.free j hj
def RepPost (x : Int) (n : Nat) (w : World) (e : Ending) (w' : World) : Prop:=∃ gl,e = .returned (.slice (some ⟨gl,0,none⟩) n n)∧Own w' gl 0 n (fun _=>.int .i64 x)∧w.heap.size≤gl∧Below w.heap.size w w'
theorem sl_repeat (x : Int) (n gx : Nat) (hn : n≤1000000) (w : World) (hx : At w gx [.int .i64 x]) :
    Calls Tryz.prog 152 #[.slice (some ⟨gx,0,none⟩) 1 1,.int .i64 n] w fun e w'=>RepPost x n w e w':=by
  have HM:=fun w=>Lib.hid (mul_one n (by omega) w)
  have hmk:=run_make_row' (P:=Tryz.prog) 106 3 (.int .i64 0) 8 Tryz.underlying106 (by kernel_rfl) rfl .i64 .i64 n (by omega) (by omega)
  have hs1 : (Tryz.prog.info? 3).map (·.size)=some 1:=by kernel_rfl
  have ho:=own_rowI w (.int .i64 0) n 3
  have hne : gx<w.heap.size:=hx.1
  have hsrc:=(hx.alloc2 (.cells (madeCells #[.int .i64 0] n) 3)).one.2.1
  obtain ⟨m0,hm0⟩ : ∃ m0,Nat.min 1 n=m0:=⟨_,rfl⟩
  have hm1 : m0≤1∧m0≤n∧(1≤n→m0=1):=by rw [← hm0];simp only [Nat.min_def];split <;> omega
  obtain ⟨cp,o1,u1⟩:=run_rep (k:=0) (X:=.int .i64 x) (Z:=.int .i64 0) (ho.congr (fun j _=>by simp)) (Nat.zero_le _) m0 (by omega) 1 1 n (by rw [Nat.sub_zero];exact hm0.symm) ⟨gx,0,none⟩ (fun j hj=>by
    obtain rfl : j=0:=by omega
    rw [Addr.add_lit];exact hsrc) rfl 3 Tryz.underlying106 hs1
  rw [Nat.sub_zero] at cp
  rw [Nat.zero_add] at o1
  have HB : Below w.heap.size w (w.alloc (.cells (madeCells #[.int .i64 0] n) 3)):=(Below.refl _ _).alloc (Nat.le_refl _) _
  have hb1:=HB.upd u1 HB.size (fun b _ e=>by omega)
  have hmz : Hid (m0≤1∧m0≤n∧(1≤n→m0=1)):=Lib.hid hm1
  clear hx hsrc hm0 hm1 ho HB u1
  generalize (w.alloc (.cells (madeCells #[.int .i64 0] n) 3)).setCells w.heap.size 0 (List.replicate m0 (.int .i64 x))=W1 at *
  go_enter Tryz.func152,Tryz.ntmps152
  go_wp2_with (first|(go_at_call 204;(with_reducible refine (HM _).out.mono ?_);rintro e w1 ⟨rfl,rfl⟩)|(at_builtin;refine wpList_copy_run _ rfl (.tmp 31) (.tmp 32) 106 106 rfl _ _ rfl rfl cp ?_))
  clear cp hmk HM
  go_loopw [8] (fun t wr=>∃ k : Nat,k≤n∧t = .int .i64 k∧Hid (1≤n→1≤k)∧Own wr w.heap.size 0 n (fun j=>if j<k then .int .i64 x else .int .i64 0)∧Below w.heap.size w wr) (fun t _=>n - (intOf t).toNat)
  case atStart=>exact ⟨m0,hmz.out.2.1,rfl,Lib.hid (fun h=>by have:=hmz.out.2.2 h;omega),o1,hb1⟩
  case round =>
    clear o1 hb1
    obtain ⟨k,hk,rfl,hk1,ho,hb⟩:=hrel
    by_cases hlt : k<n
    · obtain ⟨m,hm⟩ : ∃ m,Nat.min k (n - k)=m:=⟨_,rfl⟩
      have hmm : 1≤m∧m≤k∧k+m≤n:=by have:=hk1.out (by omega);rw [← hm];simp only [Nat.min_def];split <;> omega
      have HMM:=Lib.hid hmm
      have hlo:=ho.lt
      have cps:=fun sc dc ty=>run_rep (w:=wr.drew) (ho.drew) (by omega) m hmm.2.2 k sc dc hm.symm ⟨w.heap.size,0,none⟩ (fun j hj=>by
        have:=ho.drew.cell j (by omega)
        rw [Nat.zero_add,if_pos (by omega)] at this
        rw [Addr.add_lit,Nat.zero_add];exact this) rfl ty Tryz.underlying106 hs1
      have o2:=(cps 0 0 0).2.1
      have u2:=(cps 0 0 0).2.2
      have cp2:=fun sc dc ty=>(cps sc dc ty).1
      have hb2:=(hb.upd (S:=fun _=>False) ((Upd.refl _ _).drew) hb.size (fun _ _ h=>h.elim)).upd u2 (by simp;exact hb.size) (fun b _ e=>by omega)
      have hne2 : ¬ (n=k):=by omega
      clear cps u2 hm hmm ho hb
      generalize wr.drew.setCells w.heap.size k (List.replicate m (.int .i64 x))=W2 at *
      have hkm : IntKind.i64.wrap ((k : Int)+(m : Int))=(k : Int)+(m : Int):=by have:=HMM.out;rw [IntKind.wrap_i64];omega
      go_wp2
      go_region_law (refine step_copy_run rfl _ _ 106 106 rfl _ _ (by simp [Act.eval,Act.put]) (by simp [Act.eval,Act.put]) (cp2 _ _ _) ?_)
      all_goals go_wp2
      all_goals go_roundw
      case rel =>
        refine ⟨_,_,_,_,_,_,_,_,_,_,_,_,_,_,⟨k+m,HMM.out.2.2,?_,Lib.hid (fun h=>by have:=HMM.out;omega),o2,hb2⟩,rfl⟩
        simp
      case measure=>(have:=HMM.out;simp [Act.put,intOf];omega)
    · obtain rfl : k=n:=by omega
      go_wp2
      go_ret
      exact ⟨w.heap.size,rfl,ho.congr (fun j hj=>if_pos hj),Nat.le_refl _,hb⟩
open PSat PAlign
structure AlignC (w : World) (g gl n : Nat) (d G : Int) (L : Nat→Int) : Prop where
  at_ : At w g [.int .i64 d,.int .i64 G,.slice (some ⟨gl,0,none⟩) n n]
  ls : Own w gl 0 n (fun j=>.int .i64 (L j))
  ne : g≠gl
  bd : inR d
  bG : inR G
  sm : n≤1000000
section
variable {w w' : World} {g gl n : Nat} {d G : Int} {L : Nat→Int}
theorem AlignC.upd {S : Nat→Prop} (h : AlignC w g gl n d G L) (hu : Upd S w w') (h1 : ¬ S g) (h2 : ¬ S gl) : AlignC w' g gl n d G L :=
  ⟨h.at_.upd hu h1,h.ls.upd hu h2,h.ne,h.bd,h.bG,h.sm⟩
theorem AlignC.on (h : AlignC w g gl n d G L) (hb : Below w.heap.size w w') : AlignC w' g gl n d G L :=
  h.upd (S:=fun k=>w.heap.size≤k) (Upd.of_below hb (fun _ _ h=>h)) (by have:=h.at_.1;omega) (by have:=h.ls.lt;omega)
theorem AlignC.alloc (h : AlignC w g gl n d G L) (o : Obj) : AlignC (w.alloc o) g gl n d G L:=h.upd (S:=fun _=>False) ((Upd.refl _ _).alloc o) id id
theorem AlignC.drewN (h : AlignC w g gl n d G L) (m : Nat) : AlignC (w.drewN m) g gl n d G L:=h.upd (S:=fun _=>False) ((Upd.refl _ _).drewN m) id id
theorem AlignC.loc (h : AlignC w g gl n d G L) (j : Nat) (hj : j<n) : w.cell? ⟨gl,j,none⟩=some (.int .i64 (L j))∧w.frozen? ⟨gl,j,none⟩=false:=by
  have h1:=h.ls.cell j hj
  have h2:=h.ls.free j hj
  rw [Nat.zero_add] at h1 h2
  exact ⟨h1,h2⟩
end
theorem on_quiet {w w' : World} (h : ∃ m,w'=w.drewN m) : Below w.heap.size w w':=by
  obtain ⟨m,rfl⟩:=h
  exact ((Upd.refl (fun _=>False) w).drewN m).below (Nat.le_refl _) (fun _ _ h=>h.elim)
theorem al_limit (g gl n : Nat) (d G : Int) (L : Nat→Int) (w : World) (h : AlignC w g gl n d G L) :
    Calls Tryz.prog 215 #[.pointer (some ⟨g,0,none⟩)] w fun e w'=>e = .returned (.int .i64 (add G d))∧∃ m,w'=w.drewN m:=by
  have HS:=fun w=>Lib.hid (sat_add G d w h.bG h.bd)
  obtain ⟨hg,c0,z0,c1,z1,c2,z2⟩:=h.at_.three
  clear h
  go_enter Tryz.func215,Tryz.ntmps215
  go_wp2
  go_quiet ((go_at_call 77;(with_reducible refine (HS _).out.mono ?_);rintro e wq ⟨rfl,rfl⟩;exact ⟨rfl,_,rfl⟩))
  go_wp2
  go_ret
  exact ⟨rfl,_,rfl⟩
theorem al_has (g gl n : Nat) (d G : Int) (L : Nat→Int) (i : Int) (w : World) (h : AlignC w g gl n d G L) :
    Calls Tryz.prog 220 #[.pointer (some ⟨g,0,none⟩),.int .i64 i] w fun e w'=>e = .returned (.bool (decide (0≤i∧i<n)))∧w=w':=by
  obtain ⟨hg,c0,z0,c1,z1,c2,z2⟩:=h.at_.three
  clear h
  by_cases h0 : 0≤i
  · by_cases h1 : i<n
    · have hd : decide (0≤i∧i<n)=true:=decide_eq_true ⟨h0,h1⟩
      rw [hd]
      go_enter Tryz.func220,Tryz.ntmps220
      go_wp2
      go_ret
      exact ⟨rfl,rfl⟩
    · have hd : decide (0≤i∧i<n)=false:=decide_eq_false (by omega)
      rw [hd]
      go_enter Tryz.func220,Tryz.ntmps220
      go_wp2
      go_ret
      exact ⟨ret_bool (by simp <;> omega),rfl⟩
  · have hd : decide (0≤i∧i<n)=false:=decide_eq_false (by omega)
    rw [hd]
    have h1 : i<0:=by omega
    go_enter Tryz.func220,Tryz.ntmps220
    go_wp2
    go_ret
    exact ⟨rfl,rfl⟩
def AlPost (g gl n : Nat) (d G : Int) (L : Nat→Int) (w w' : World) : Prop:=AlignC w' g gl n d G L∧Upd (fun b=>b=g∨b=gl) w w'
theorem al_local (g gl n : Nat) (d G : Int) (L : Nat→Int) (i : Nat) (x : Int) (w : World) (h : AlignC w g gl n d G L) (hi : i<n) :
    Calls Tryz.prog 172 #[.pointer (some ⟨g,0,none⟩),.int .i64 i,.int .i64 x] w fun e w'=>e = .returned (.bool true)∧AlPost g gl n d G (PTree.put L i x) w w':=by
  have HS:=Lib.hid (al_has g gl n d G L i w h)
  rw [decide_eq_true (show (0 : Int)≤i∧(i : Int)<n by omega)] at HS
  have HC:=Lib.hid h
  obtain ⟨hg,c0,z0,c1,z1,c2,z2⟩:=h.at_.three
  obtain ⟨ci,zi⟩:=h.loc i hi
  have hlt:=h.ls.lt
  clear h
  go_enter Tryz.func172,Tryz.ntmps172
  go_wp2_with (go_at_call 220;(with_reducible refine HS.out.mono ?_);rintro e w1 ⟨rfl,rfl⟩)
  go_ret
  have hu : Upd (fun k=>k=gl) w (w.setCell ⟨gl,i,none⟩ (.int .i64 x)):=(Upd.refl (fun k=>k=gl) w).setCell (p:=⟨gl,i,none⟩) (fun _=>rfl) _
  have h1:=HC.out.ls.set i hi (.int .i64 x)
  rw [Nat.zero_add] at h1
  exact ⟨rfl,⟨HC.out.at_.upd hu HC.out.ne,h1.congr (fun j hj=>by unfold PTree.put;by_cases e : j=i <;> simp [e]),HC.out.ne,HC.out.bd,HC.out.bG,HC.out.sm⟩,hu.mono (fun b _ e=>.inr e)⟩
theorem al_paused (g gl n : Nat) (d G : Int) (L : Nat→Int) (i : Nat) (w : World) (h : AlignC w g gl n d G L) (hi : i<n) :
    Calls Tryz.prog 219 #[.pointer (some ⟨g,0,none⟩),.int .i64 i] w fun e w'=>e = .returned (.bool (decide (add G d<L i)))∧∃ m,w'=w.drewN m:=by
  have HS:=fun q=>Lib.hid (al_has g gl n d G L i _ (h.drewN q))
  rw [decide_eq_true (show (0 : Int)≤i∧(i : Int)<n by omega)] at HS
  have HL:=fun q=>Lib.hid (al_limit g gl n d G L _ (h.drewN q))
  obtain ⟨hg,c0,z0,c1,z1,c2,z2⟩:=h.at_.three
  obtain ⟨ci,zi⟩:=h.loc i hi
  have hlt:=h.ls.lt
  clear h
  generalize add G d=M at *
  generalize L i=x at *
  go_enter Tryz.func219,Tryz.ntmps219
  go_wp2
  go_quiet (first|(go_at_call 220;(with_reducible refine (HS _).out.mono ?_);rintro e wq ⟨rfl,rfl⟩;exact ⟨rfl,_,rfl⟩)|(go_at_call 215;exact Calls.quiet_of (HL _).out))
  go_wp2
  go_ret
  exact ⟨rfl,_,rfl⟩
theorem btw_rowi {B : Nat} {w : World} {v : Value} {L : Nat→Int} {a b : Int} {n : Nat} (h : Sl B w 1 v (btw L a b n).length (iv (btw L a b n))) (hn : n≤1000000) : ∃ ad c,v = .slice ad (btw L a b n).length c∧RowI w .i64 ad (btw L a b n) :=
  (rowi_of_sl h (fun x hx=>by obtain ⟨j,rfl,h1,_⟩:=btw_mem L a b n x hx;omega)).2
theorem al_between (g gl n : Nat) (d G : Int) (L : Nat→Int) (a b : Int) (w : World) (h : AlignC w g gl n d G L) :
    Calls Tryz.prog 216 #[.pointer (some ⟨g,0,none⟩),.int .i64 a,.int .i64 b] w (AllPost (btw L a b n) w):=by
  have HC:=Lib.hid h
  obtain ⟨hg,c0,z0,c1,z1,c2,z2⟩:=h.at_.three
  have hn:=h.sm
  obtain ⟨i0,hi0,hz0,hz1,hz2⟩:=info_parts info_int
  clear h z0 z1 z2
  go_enter Tryz.func216,Tryz.ntmps216
  go_wp2
  go_loopw [7,15] (fun v i wr=>∃ k : Nat,k≤n∧i = .int .i64 k∧Sl w.heap.size wr 1 v (btw L a b k).length (iv (btw L a b k))∧Below w.heap.size w wr) (fun _ i _=>n - (intOf i).toNat)
  case atStart=>exact ⟨0,Nat.zero_le _,rfl,Sl.nil _ _ _,Below.refl _ _⟩
  case round =>
    obtain ⟨k,hk,rfl,hs,hb⟩:=hrel
    by_cases hlt : k<n
    · have hCr:=HC.out.on hb
      obtain ⟨ci,-⟩:=hCr.loc k hlt
      have hll:=hCr.ls.lt
      have hB : Hid (btw L a b (k+1)=btw L a b k++(if a<L k∧L k≤b then [(k : Int)] else [])):=Lib.hid rfl
      have hbl:=btw_len L a b k
      have hsz:=hb.size
      clear hCr
      generalize btw L a b k=R at *
      generalize L k=x at *
      by_cases h1 : a<x
      · by_cases h2 : x≤b
        · have hB2 : Hid (btw L a b (k+1)=R++[(k : Int)]):=Lib.hid (by rw [hB.out,if_pos ⟨h1,h2⟩])
          have hm1 : R.length+1≤maxLen:=by unfold maxLen;omega
          go_wp2_with (at_builtin;refine wpList_append_sl _ rfl (.tmp 28) (.tmp 30) 106 106 rfl 3 i0 (.int .i64 0) 8 Tryz.underlying106 hi0 hz0 hz1 hz2 rfl rfl (hs.alloc _) _ 1 [.int .i64 k] rfl (src_oneN Tryz.underlying106 _ (.int .i64 k) _ _ (by simp) rfl) hm1 (by omega) (by simp;omega) ?_;intro v1 w1 k1 k2 k3)
          go_roundw
          case rel=>exact ⟨k+1,by omega,by go_num,by rw [hB2.out,List.length_append,iv_snoc];exact k1,(hb.alloc hsz _).upd k2 (by simp;omega) (fun i _ h=>(hs.lt i h).1)⟩
          case measure=>simp [intOf];omega
        · have hB2 : Hid (btw L a b (k+1)=R):=Lib.hid (by rw [hB.out,if_neg (fun h=>h2 h.2),List.append_nil])
          have h3 : b<x:=by omega
          go_wp2
          go_roundw
          case rel=>exact ⟨k+1,by omega,by go_num,by rw [hB2.out];exact hs,hb⟩
          case measure=>simp [intOf];omega
      · have hB2 : Hid (btw L a b (k+1)=R):=Lib.hid (by rw [hB.out,if_neg (fun h=>h1 h.1),List.append_nil])
        have h3 : x≤a:=by omega
        go_wp2
        go_roundw
        case rel=>exact ⟨k+1,by omega,by go_num,by rw [hB2.out];exact hs,hb⟩
        case measure=>simp [intOf];omega
    · obtain rfl : k=n:=by omega
      obtain ⟨ad,c,rfl,hr⟩:=btw_rowi hs hn
      go_wp2
      go_ret
      exact ⟨ad,c,rfl,hr,hb⟩
def GlobPost (g gl n : Nat) (d G : Int) (L : Nat→Int) (R : List Int) (w : World) (e : Ending) (w' : World) : Prop :=
  ∃ a c,e = .returned (.slice a R.length c)∧RowI w' .i64 a R∧AlPost g gl n d G L w w'
theorem al_global (g gl n : Nat) (d G x : Int) (L : Nat→Int) (w : World) (h : AlignC w g gl n d G L) (hx : inR x) :
    Calls Tryz.prog 165 #[.pointer (some ⟨g,0,none⟩),.int .i64 x] w (GlobPost g gl n d x L (btw L (add G d) (add x d) n) w):=by
  have HL:=Lib.hid (al_limit g gl n d G L w h)
  have HSET : Hid (∀ w',AlignC w' g gl n d G L→AlignC (w'.setCell ⟨g,1,none⟩ (.int .i64 x)) g gl n d x L∧Upd (fun k=>k=g) w' (w'.setCell ⟨g,1,none⟩ (.int .i64 x))):=Lib.hid (fun w' h=>by
    have hu : Upd (fun k=>k=g) w' (w'.setCell ⟨g,1,none⟩ (.int .i64 x)):=(Upd.refl (fun k=>k=g) w').setCell (p:=⟨g,1,none⟩) (fun _=>rfl) _
    exact ⟨⟨h.at_.set 1 (by simp) _,h.ls.upd hu (fun e=>h.ne e.symm),h.ne,h.bd,hx,h.sm⟩,hu⟩)
  have HL2:=fun w' h=>Lib.hid (al_limit g gl n d x L w' h)
  have HB:=fun w' h=>Lib.hid (al_between g gl n d x L (add G d) (add x d) w' h)
  have HC:=Lib.hid h
  clear h
  generalize add G d=M at *
  generalize add x d=M2 at *
  go_enter Tryz.func165,Tryz.ntmps165
  go_wp2_with (go_at_call 215;(with_reducible refine HL.out.mono ?_);rintro e w1 ⟨rfl,hm⟩;have hb1:=on_quiet hm;have hC1:=HC.out.on hb1;obtain ⟨hg,c0,z0,c1,z1,c2,z2⟩:=hC1.at_.three;obtain ⟨hC2,hU2⟩:=HSET.out _ hC1;clear hm)
  go_wp2_with (first|(go_at_call 215;(with_reducible refine (HL2 _ hC2).out.mono ?_);rintro e w3 ⟨rfl,hm⟩;have hb3:=on_quiet hm;have hC3:=hC2.on hb3;clear hm)|(go_at_call 216;(with_reducible refine (HB _ hC3).out.mono ?_);intro e w4 h1;obtain ⟨ad,c,rfl,h2,h3⟩:=h1))
  go_ret
  have hlt:=HC.out.at_.1
  have u1 : Upd (fun b=>b=g) w w1:=Upd.of_below hb1 (fun b h1 h2=>by omega)
  have hu2 : Upd (fun b=>b=g) w w4:=(u1.trans hU2 (fun _ _ e=>e)).trans (Upd.of_below (on_below hb3 h3) (fun b h1 h2=>by omega)) (fun _ _ e=>e)
  exact ⟨ad,c,rfl,h2,hC3.on h3,hu2.mono (fun b _ e=>.inl e)⟩
def AlNew (n : Nat) (d : Int) (w : World) (e : Ending) (w' : World) : Prop:=∃ g gl,e = .returned (.pointer (some ⟨g,0,none⟩))∧AlignC w' g gl n d (-9223372036854775808) (fun _=>-9223372036854775808)∧w.heap.size≤g∧w.heap.size≤gl∧Below w.heap.size w w'
theorem al_new (d a : Int) (n : Nat) (w : World) (hd : inR d) (hn : max a 0=(n : Int)) (hb : n≤1000000) :
    Calls Tryz.prog 105 #[.int .i64 d,.int .i64 a] w fun e w'=>AlNew n d w e w':=by
  have hif : (if a<0 then (0 : Int) else a)=(n : Int):=by split <;> omega
  have hnb : (n : Int)≤1000000:=by omega
  have hA:=At.alloc w [.int .i64 (-9223372036854775808)] 3
  have HR:=Lib.hid (sl_repeat (-9223372036854775808) n w.heap.size hb _ hA)
  have HB : Hid (Below w.heap.size w (w.alloc (.cells #[.int .i64 (-9223372036854775808)] 3))):=Lib.hid ((Below.refl _ _).alloc (Nat.le_refl _) _)
  have HD:=Lib.hid hd
  clear hn hA hd
  go_enter Tryz.func105,Tryz.ntmps105
  go_wp2_with (go_at_call 152;(with_reducible refine HR.out.mono ?_);intro e w1 h1;obtain ⟨gl,rfl,ho,hgl,hbl⟩:=h1)
  go_ret
  have hb1:=on_below HB.out hbl
  have hlt:=ho.lt
  have hgl2 : w.heap.size≤gl:=Nat.le_trans HB.out.size hgl
  exact ⟨w1.heap.size,gl,rfl,⟨At.alloc w1 _ _,ho.alloc _,by omega,HD.out,by unfold inR;omega,hb⟩,hb1.size,hgl2,hb1.alloc hb1.size _⟩
section
variable {w0 w w' : World} {g gl n : Nat} {d G G' : Int} {L L' : Nat→Int}
end
section
variable {w0 w w' : World} {g gl gr n : Nat} {d G G' : Int} {L L' : Nat→Int}
end
end Go.Proofs.YtmimfkhkilijcaaGreatDoor
