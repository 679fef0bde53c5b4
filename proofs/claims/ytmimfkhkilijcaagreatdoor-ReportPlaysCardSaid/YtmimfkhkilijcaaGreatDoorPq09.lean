/- KRul: what is reached of them. -/
import Derived.Test.YtmimfkhkilijcaaGreatDoorPq01
import Derived.WalkKit
import Derived.ProofKit
import Derived.OpenShut
import Derived.Handy
import Derived.IntWalk
import Derived.Outline
import Derived.Lib.Hide
import Derived.WalkLawsBesides
import Derived.Deep.RegionHeld3
import Derived.Deep.DeepCutAuto
set_option linter.unusedVariables false
set_option linter.unusedSimpArgs false
set_option maxRecDepth 100000
set_option maxHeartbeats 8000000
namespace Go.Proofs.YtmimfkhkilijcaaGreatDoor
open Go.ChangeShapes Go.WideShapes Go.ChangeAt Go.RowKit
structure Rul where
  kind : Int
  bound : Int
  pct : Int
  win : Int
  sign : Int
def Rul.cells (r : Rul) : List Value:=[.int .i64 r.kind,.int .i64 r.bound,.int .i64 r.pct,.int .i64 r.win,.int .i64 r.sign]
def Rul.val (r : Rul) : Value:=.agg #[.int .i64 r.kind,.int .i64 r.bound,.int .i64 r.pct,.int .i64 r.win,.int .i64 r.sign]
def in64 (n : Int) : Prop:=-9223372036854775808≤n∧n≤9223372036854775807
structure Rul.Fits (r : Rul) : Prop where
  kind : in64 r.kind
  bound : in64 r.bound
  pct : in64 r.pct
  win : in64 r.win
  sign : in64 r.sign
def rcheck (r : Rul) : Int :=
  if r.kind=0 then (if r.bound<0 then 7 else 0)
  else if r.kind=1 then (if r.sign<0∨1114111<r.sign then 7 else 0)
  else if r.kind=2 then (if r.pct<0∨100<r.pct∨r.win<1∨4096<r.win then 7 else 0)
  else 3
theorem rcheck_some {r : Rul} (h : rcheck r=0) : (r.kind=0∧0≤r.bound)∨(r.kind=1∧0≤r.sign∧r.sign≤1114111)∨(r.kind=2∧(0≤r.pct∧r.pct≤100)∧1≤r.win∧r.win≤4096):=by
  unfold rcheck at h
  (repeat' split at h) <;> omega
theorem gn_within (n a b : Int) (w : World) (o : Bool) (ho : decide (a≤n∧n≤b)=o) :
    Calls Tryz.prog 200 #[.int .i64 n,.int .i64 a,.int .i64 b] w fun e w'=>e = .returned (.bool o)∧w=w':=by
  subst ho
  by_cases h1 : a≤n
  · by_cases h2 : n≤b
    · go_enter Tryz.func200,Tryz.ntmps200
      go_wp2
      go_ret
      exact ⟨ret_bool (by simp [h1,h2]),rfl⟩
    · have h2' : b<n:=by omega
      go_enter Tryz.func200,Tryz.ntmps200
      go_wp2
      go_ret
      exact ⟨ret_bool (by simp [h1,h2]),rfl⟩
  · have h1' : n<a:=by omega
    go_enter Tryz.func200,Tryz.ntmps200
    go_wp2
    go_ret
    exact ⟨ret_bool (by simp;omega),rfl⟩
theorem gn_check (r : Rul) (w : World) (z : Int) (hz : rcheck r=z) :
    Calls Tryz.prog 147 #[r.val] w fun e w'=>e = .returned (.int .i64 z)∧Below w.heap.size w w':=by
  obtain ⟨k,b,p,n,s⟩:=r
  unfold Rul.val
  simp only
  have hA:=At.alloc w [.int .i64 k,.int .i64 b,.int .i64 p,.int .i64 n,.int .i64 s] 59
  have hb0 : Below w.heap.size w (w.alloc (.cells #[.int .i64 k,.int .i64 b,.int .i64 p,.int .i64 n,.int .i64 s] 59)):=(Below.refl _ _).alloc (Nat.le_refl _) _
  obtain ⟨hg,c0,z0,c1,z1,c2,z2,c3,z3,c4,z4⟩:=hA.five
  clear hA z0 z1 z2 z3 z4
  have HZ:=Lib.hid hz
  clear hz
  by_cases k0 : k=0
  · subst k0
    by_cases h : b<0
    · obtain rfl : z=7:=by rw [← HZ.out];simp [rcheck,h]
      have hd : decide (0≤b)=false:=by simp;omega
      go_enter Tryz.func147,Tryz.ntmps147
      go_wp2
      go_ret
      exact ⟨rfl,hb0⟩
    · obtain rfl : z=0:=by rw [← HZ.out];simp [rcheck,h]
      have h' : 0≤b:=by omega
      go_enter Tryz.func147,Tryz.ntmps147
      go_wp2
      go_ret
      exact ⟨rfl,hb0⟩
  by_cases k1 : k=1
  · subst k1
    by_cases h : s<0∨1114111<s
    · obtain rfl : z=7:=by rw [← HZ.out];simp [rcheck,h]
      have HW:=fun w'=>Lib.hid (gn_within s 0 1114111 w' false (by simp;omega))
      go_enter Tryz.func147,Tryz.ntmps147
      go_wp2_with (go_at_call 200;refine (HW _).out.mono ?_;rintro e w' ⟨rfl,rfl⟩)
      go_ret
      exact ⟨rfl,hb0⟩
    · obtain rfl : z=0:=by rw [← HZ.out];simp [rcheck,h]
      have HW:=fun w'=>Lib.hid (gn_within s 0 1114111 w' true (by simp;omega))
      go_enter Tryz.func147,Tryz.ntmps147
      go_wp2_with (go_at_call 200;refine (HW _).out.mono ?_;rintro e w' ⟨rfl,rfl⟩)
      go_ret
      exact ⟨rfl,hb0⟩
  by_cases k2 : k=2
  · subst k2
    by_cases hp : p<0∨100<p
    · obtain rfl : z=7:=by rw [← HZ.out];simp [rcheck];omega
      have HW:=fun w'=>Lib.hid (gn_within p 0 100 w' false (by simp;omega))
      clear HZ
      go_enter Tryz.func147,Tryz.ntmps147
      go_wp2_with (go_at_call 200;refine (HW _).out.mono ?_;rintro e w' ⟨rfl,rfl⟩)
      go_ret
      exact ⟨rfl,hb0⟩
    by_cases hn : n<1∨4096<n
    · obtain rfl : z=7:=by rw [← HZ.out];simp [rcheck];omega
      have HW:=fun w'=>Lib.hid (gn_within p 0 100 w' true (by simp;omega))
      have HW2:=fun w'=>Lib.hid (gn_within n 1 4096 w' false (by simp;omega))
      clear HZ
      go_enter Tryz.func147,Tryz.ntmps147
      go_wp2_with (first|(go_at_call 200;(with_reducible refine (HW _).out.mono ?_);rintro e w' ⟨rfl,rfl⟩)|(go_at_call 200;(with_reducible refine (HW2 _).out.mono ?_);rintro e w' ⟨rfl,rfl⟩))
      go_ret
      exact ⟨rfl,hb0⟩
    · obtain rfl : z=0:=by rw [← HZ.out];simp [rcheck];omega
      have HW:=fun w'=>Lib.hid (gn_within p 0 100 w' true (by simp;omega))
      have HW2:=fun w'=>Lib.hid (gn_within n 1 4096 w' true (by simp;omega))
      clear HZ
      go_enter Tryz.func147,Tryz.ntmps147
      go_wp2_with (first|(go_at_call 200;(with_reducible refine (HW _).out.mono ?_);rintro e w' ⟨rfl,rfl⟩)|(go_at_call 200;(with_reducible refine (HW2 _).out.mono ?_);rintro e w' ⟨rfl,rfl⟩))
      go_ret
      exact ⟨rfl,hb0⟩
  · obtain rfl : z=3:=by rw [← HZ.out];simp [rcheck,k0,k1,k2]
    have q0 : (k == 0)=false:=by simpa using k0
    have q1 : (k == 1)=false:=by simpa using k1
    have q2 : (k == 2)=false:=by simpa using k2
    clear HZ
    go_enter Tryz.func147,Tryz.ntmps147
    go_wp2
    go_ret
    exact ⟨rfl,hb0⟩
theorem ref_check13 (r : Rul) (w : World) (z : Int) (hz : rcheck r=z) :
    Calls Tryz.prog 95 #[r.val] w fun e w'=>e = .returned (.int .i64 z)∧Below w.heap.size w w':=by
  obtain ⟨k,b,p,n,s⟩:=r
  unfold Rul.val
  simp only
  have hA:=At.alloc w [.int .i64 k,.int .i64 b,.int .i64 p,.int .i64 n,.int .i64 s] 59
  have hb0 : Below w.heap.size w (w.alloc (.cells #[.int .i64 k,.int .i64 b,.int .i64 p,.int .i64 n,.int .i64 s] 59)):=(Below.refl _ _).alloc (Nat.le_refl _) _
  obtain ⟨hg,c0,z0,c1,z1,c2,z2,c3,z3,c4,z4⟩:=hA.five
  clear hA z0 z1 z2 z3 z4
  have HZ:=Lib.hid hz
  clear hz
  have q0 : k≠0→(k == 0)=false:=fun h=>by simpa using h
  have q1 : k≠1→(k == 1)=false:=fun h=>by simpa using h
  have q2 : k≠2→(k == 2)=false:=fun h=>by simpa using h
  by_cases k0 : k=0
  · subst k0
    clear q0 q1 q2
    by_cases h : b<0
    · obtain rfl : z=7:=by rw [← HZ.out];simp [rcheck,h]
      go_enter Tryz.func95,Tryz.ntmps95
      go_wp2
      go_ret
      exact ⟨rfl,hb0⟩
    · obtain rfl : z=0:=by rw [← HZ.out];simp [rcheck,h]
      have h' : 0≤b:=by omega
      go_enter Tryz.func95,Tryz.ntmps95
      go_wp2
      go_ret
      exact ⟨rfl,hb0⟩
  have q0:=q0 k0
  by_cases k1 : k=1
  · subst k1
    clear q1 q2
    by_cases h : s<0
    · obtain rfl : z=7:=by rw [← HZ.out];simp [rcheck,h]
      go_enter Tryz.func95,Tryz.ntmps95
      go_wp2
      go_ret
      exact ⟨rfl,hb0⟩
    have h' : 0≤s:=by omega
    by_cases h2 : 1114111<s
    · obtain rfl : z=7:=by rw [← HZ.out];simp [rcheck,h2]
      go_enter Tryz.func95,Tryz.ntmps95
      go_wp2
      go_ret
      exact ⟨rfl,hb0⟩
    · obtain rfl : z=0:=by rw [← HZ.out];simp [rcheck];omega
      have h2' : s≤1114111:=by omega
      clear HZ
      go_enter Tryz.func95,Tryz.ntmps95
      go_wp2
      go_ret
      exact ⟨rfl,hb0⟩
  have q1:=q1 k1
  by_cases k2 : k=2
  · subst k2
    clear q2 k0 k1
    by_cases hp : p<0
    · obtain rfl : z=7:=by rw [← HZ.out];simp [rcheck];omega
      clear HZ
      go_enter Tryz.func95,Tryz.ntmps95
      go_wp2
      go_ret
      exact ⟨rfl,hb0⟩
    have hp' : 0≤p:=by omega
    by_cases hp2 : 100<p
    · obtain rfl : z=7:=by rw [← HZ.out];simp [rcheck];omega
      clear HZ
      go_enter Tryz.func95,Tryz.ntmps95
      go_wp2
      go_ret
      exact ⟨rfl,hb0⟩
    have hp2' : p≤100:=by omega
    by_cases hn : n<1
    · obtain rfl : z=7:=by rw [← HZ.out];simp [rcheck];omega
      clear HZ
      go_enter Tryz.func95,Tryz.ntmps95
      go_wp2
      go_ret
      exact ⟨rfl,hb0⟩
    have hn' : 1≤n:=by omega
    by_cases hn2 : 4096<n
    · obtain rfl : z=7:=by rw [← HZ.out];simp [rcheck];omega
      clear HZ
      go_enter Tryz.func95,Tryz.ntmps95
      go_wp2
      go_ret
      exact ⟨rfl,hb0⟩
    have hn2' : n≤4096:=by omega
    obtain rfl : z=0:=by rw [← HZ.out];simp [rcheck];omega
    clear HZ
    go_enter Tryz.func95,Tryz.ntmps95
    go_wp2
    go_ret
    exact ⟨rfl,hb0⟩
  · have q2:=q2 k2
    obtain rfl : z=3:=by rw [← HZ.out];simp [rcheck,k0,k1,k2]
    clear HZ
    go_enter Tryz.func95,Tryz.ntmps95
    go_wp2
    go_ret
    exact ⟨rfl,hb0⟩
abbrev RowU (w : World) (a : Option Addr) (l : List Rul) : Prop:=RowG w 5 Rul.cells a l
theorem RowU.cells {w : World} {b off : Nat} {l : List Rul} (h : RowU w (some ⟨b,off,none⟩) l) (k : Nat) (hk : k<l.length) :
    b<w.heap.size∧w.cell? ⟨b,off+k*5,none⟩=some (.int .i64 l[k].kind)∧w.cell? ⟨b,off+k*5+1,none⟩=some (.int .i64 l[k].bound)∧w.cell? ⟨b,off+k*5+2,none⟩=some (.int .i64 l[k].pct)∧w.cell? ⟨b,off+k*5+3,none⟩=some (.int .i64 l[k].win)∧w.cell? ⟨b,off+k*5+4,none⟩=some (.int .i64 l[k].sign):=by
  obtain ⟨h1,h2⟩:=RowG.cell h k hk
  exact ⟨h1,h2 0 (by omega),h2 1 (by omega),h2 2 (by omega),h2 3 (by omega),h2 4 (by omega)⟩
def firstErr : List Rul→Int
  | []=>0
  | r::rs=>if rcheck r≠0 then rcheck r else firstErr rs
def ccheck (rs : List Rul) (t d : Int) : Int :=
  if rs.length<1∨4096<rs.length then 6 else if t<1∨d<0 then 7 else firstErr rs
theorem firstErr_drop (rs : List Rul) (k : Nat) (hk : k<rs.length) : firstErr (rs.drop k)=if rcheck rs[k]≠0 then rcheck rs[k] else firstErr (rs.drop (k+1)):=by
  rw [List.drop_eq_getElem_cons hk]
  rfl
theorem ref_check19 (rs : List Rul) (t d : Int) (a : Option Addr) (n c : Nat) (w : World) (h1 : RowU w a rs) (hn : n=rs.length) (hl : n≤10000) (z : Int) (hz : ccheck rs t d=z) :
    Calls Tryz.prog 49 #[.agg #[.slice a n c,.int .i64 t,.int .i64 d]] w fun e w'=>e = .returned (.int .i64 z)∧Below w.heap.size w w':=by
  unfold ccheck at hz
  rw [← hn] at hz
  have HN:=Lib.hid hn
  clear hn
  have hA:=At.alloc w [.slice a n c,.int .i64 t,.int .i64 d] 24
  have hb0 : Below w.heap.size w (w.alloc (.cells #[.slice a n c,.int .i64 t,.int .i64 d] 24)):=(Below.refl _ _).alloc (Nat.le_refl _) _
  obtain ⟨hg,c0,z0,c1,z1,c2,z2⟩:=hA.three
  clear z0 z1 z2
  by_cases k0 : n<1∨4096<n
  · rw [if_pos k0] at hz
    subst hz
    by_cases k1 : n<1
    · have k1' : (n : Int)<1:=by omega
      clear k0 k1
      go_enter Tryz.func49,Tryz.ntmps49
      go_wp2
      go_ret
      exact ⟨rfl,hb0⟩
    · have k1' : ¬ (n : Int)<1:=by omega
      have k2' : (4096 : Int)<n:=by omega
      clear k0 k1
      go_enter Tryz.func49,Tryz.ntmps49
      go_wp2
      go_ret
      exact ⟨rfl,hb0⟩
  rw [if_neg k0] at hz
  have k1' : ¬ (n : Int)<1:=by omega
  have k2' : ¬ (4096 : Int)<n:=by omega
  clear k0
  by_cases k3 : t<1∨d<0
  · rw [if_pos k3] at hz
    subst hz
    by_cases k4 : t<1
    · clear k3
      go_enter Tryz.func49,Tryz.ntmps49
      go_wp2
      go_ret
      exact ⟨rfl,hb0⟩
    · have k5 : d<0:=by omega
      clear k3
      go_enter Tryz.func49,Tryz.ntmps49
      go_wp2
      go_ret
      exact ⟨rfl,hb0⟩
  rw [if_neg k3] at hz
  have k4 : ¬ t<1:=by omega
  have k5 : ¬ d<0:=by omega
  have HZ : Hid (firstErr (rs.drop 0)=z):=hz
  clear k3 hz
  go_enter Tryz.func49,Tryz.ntmps49
  go_wp2
  generalize w.alloc (.cells #[.slice a n c,.int .i64 t,.int .i64 d] 24)=w2 at *
  go_loopw [3] (fun i wr=>∃ k : Nat,k≤n∧i = .int .i64 k∧Hid (firstErr (rs.drop k)=z)∧At wr w.heap.size [.slice a n c,.int .i64 t,.int .i64 d]∧Below w.heap.size w wr) (fun i _=>n - (intOf i).toNat)
  case atStart=>exact ⟨0,Nat.zero_le _,rfl,HZ,hA,hb0⟩
  case round =>
    clear hA hb0 hg c0 c1 c2 HZ
    obtain ⟨k,hk,rfl,HZ,hAt,hb⟩:=hrel
    obtain ⟨hg,c0,z0,c1,z1,c2,z2⟩:=hAt.three
    clear z0 z1 z2
    by_cases hlt : k<n
    · have hk1 : k<rs.length:=by rw [← HN.out];exact hlt
      have hrow:=h1.below hb
      obtain ⟨b1,o1,rfl,-,-⟩:=hrow.at_ k hk1
      obtain ⟨hbl1,p0,p1,p2,p3,p4⟩:=RowU.cells hrow k hk1
      have hz1:=HZ.out
      rw [firstErr_drop rs k hk1] at hz1
      have HC:=fun (y : Int) (hy : rcheck rs[k]=y)=>Lib.hid (ref_check13 rs[k] wr y hy)
      clear hrow
      generalize rs[k]=r at *
      obtain ⟨rk,rb,rp,rn,rs'⟩:=r
      simp only at p0 p1 p2 p3 p4
      by_cases he : rcheck ⟨rk,rb,rp,rn,rs'⟩=0
      · rw [if_neg (by simp [he])] at hz1
        have HZ1:=Lib.hid hz1
        have HC0 : Hid (Calls Tryz.prog 95 #[.agg #[.int .i64 rk,.int .i64 rb,.int .i64 rp,.int .i64 rn,.int .i64 rs']] wr fun e w'=>e = .returned (.int .i64 0)∧Below wr.heap.size wr w'):=HC 0 he
        clear HC he hz1 hk1 HZ
        go_wp2_with (go_at_call 95;(with_reducible refine HC0.out.mono ?_);rintro e w3 ⟨rfl,hb3⟩)
        go_roundw
        case rel=>exact ⟨k+1,by omega,by go_num,HZ1,hAt.on hb3,on_below hb hb3⟩
        case measure=>simp [intOf];omega
      · rw [if_pos he] at hz1
        have HC0 : Hid (Calls Tryz.prog 95 #[.agg #[.int .i64 rk,.int .i64 rb,.int .i64 rp,.int .i64 rn,.int .i64 rs']] wr fun e w'=>e = .returned (.int .i64 z)∧Below wr.heap.size wr w'):=HC z hz1
        have hz0 : (z == 0)=false:=by simp;rw [← hz1];exact he
        clear HC he hz1 hk1 HZ
        go_wp2_with (go_at_call 95;(with_reducible refine HC0.out.mono ?_);rintro e w3 ⟨rfl,hb3⟩)
        go_ret
        exact ⟨rfl,on_below hb hb3⟩
    · obtain rfl : k=n:=by omega
      have hz1:=HZ.out
      rw [List.drop_of_length_le (by rw [← HN.out];exact Nat.le_refl _)] at hz1
      obtain rfl : z=0:=hz1.symm
      go_wp2
      go_ret
      exact ⟨rfl,hb⟩
theorem cf_check (rs : List Rul) (t d : Int) (a : Option Addr) (n c : Nat) (w : World) (h1 : RowU w a rs) (hn : n=rs.length) (hl : n≤10000) (z : Int) (hz : ccheck rs t d=z) :
    Calls Tryz.prog 103 #[.agg #[.slice a n c,.int .i64 t,.int .i64 d]] w fun e w'=>e = .returned (.int .i64 z)∧Below w.heap.size w w':=by
  unfold ccheck at hz
  rw [← hn] at hz
  have HN:=Lib.hid hn
  clear hn
  have hA:=At.alloc w [.slice a n c,.int .i64 t,.int .i64 d] 24
  have hb0 : Below w.heap.size w (w.alloc (.cells #[.slice a n c,.int .i64 t,.int .i64 d] 24)):=(Below.refl _ _).alloc (Nat.le_refl _) _
  obtain ⟨hg,c0,z0,c1,z1,c2,z2⟩:=hA.three
  clear z0 z1 z2
  by_cases k0 : n<1∨4096<n
  · rw [if_pos k0] at hz
    subst hz
    by_cases k1 : n<1
    · have k1' : (n : Int)<1:=by omega
      clear k0 k1
      go_enter Tryz.func103,Tryz.ntmps103
      go_wp2
      go_ret
      exact ⟨rfl,hb0⟩
    · have k1' : ¬ (n : Int)<1:=by omega
      have k2' : (4096 : Int)<n:=by omega
      clear k0 k1
      go_enter Tryz.func103,Tryz.ntmps103
      go_wp2
      go_ret
      exact ⟨rfl,hb0⟩
  rw [if_neg k0] at hz
  have k1' : ¬ (n : Int)<1:=by omega
  have k2' : ¬ (4096 : Int)<n:=by omega
  clear k0
  by_cases k3 : t<1∨d<0
  · rw [if_pos k3] at hz
    subst hz
    by_cases k4 : t<1
    · clear k3
      go_enter Tryz.func103,Tryz.ntmps103
      go_wp2
      go_ret
      exact ⟨rfl,hb0⟩
    · have k5 : d<0:=by omega
      clear k3
      go_enter Tryz.func103,Tryz.ntmps103
      go_wp2
      go_ret
      exact ⟨rfl,hb0⟩
  rw [if_neg k3] at hz
  have k4 : ¬ t<1:=by omega
  have k5 : ¬ d<0:=by omega
  have HZ : Hid (firstErr (rs.drop 0)=z):=hz
  clear k3 hz
  go_enter Tryz.func103,Tryz.ntmps103
  go_wp2
  generalize w.alloc (.cells #[.slice a n c,.int .i64 t,.int .i64 d] 24)=w2 at *
  go_loopw [27] (fun i wr=>∃ k : Nat,k≤n∧i = .int .i64 k∧Hid (firstErr (rs.drop k)=z)∧Below w.heap.size w wr) (fun i _=>n - (intOf i).toNat)
  case atStart=>exact ⟨0,Nat.zero_le _,rfl,HZ,hb0⟩
  case round =>
    clear hA hb0 hg c0 c1 c2 HZ
    obtain ⟨k,hk,rfl,HZ,hb⟩:=hrel
    by_cases hlt : k<n
    · have hk1 : k<rs.length:=by rw [← HN.out];exact hlt
      have hrow:=h1.below hb
      obtain ⟨b1,o1,rfl,-,-⟩:=hrow.at_ k hk1
      obtain ⟨hbl1,p0,p1,p2,p3,p4⟩:=RowU.cells hrow k hk1
      have hz1:=HZ.out
      rw [firstErr_drop rs k hk1] at hz1
      have HC:=fun (y : Int) (hy : rcheck rs[k]=y) (w : World)=>Lib.hid (gn_check rs[k] w y hy)
      clear hrow
      generalize rs[k]=r at *
      obtain ⟨rk,rb,rp,rn,rs'⟩:=r
      simp only at p0 p1 p2 p3 p4
      have hbx:=hb.alloc hb.size (.cells #[.int .i64 rk,.int .i64 rb,.int .i64 rp,.int .i64 rn,.int .i64 rs'] 59)
      by_cases he : rcheck ⟨rk,rb,rp,rn,rs'⟩=0
      · rw [if_neg (by simp [he])] at hz1
        have HZ1:=Lib.hid hz1
        have HC0 : ∀ w,Hid (Calls Tryz.prog 147 #[.agg #[.int .i64 rk,.int .i64 rb,.int .i64 rp,.int .i64 rn,.int .i64 rs']] w fun e w'=>e = .returned (.int .i64 0)∧Below w.heap.size w w'):=HC 0 he
        clear HC he hz1 hk1 HZ
        go_wp2_with (go_at_call 147;(with_reducible refine (HC0 _).out.mono ?_);rintro e w3 ⟨rfl,hb3⟩)
        go_roundw
        case rel=>exact ⟨k+1,by omega,by go_num,HZ1,on_below hbx hb3⟩
        case measure=>simp [intOf];omega
      · rw [if_pos he] at hz1
        have HC0 : ∀ w,Hid (Calls Tryz.prog 147 #[.agg #[.int .i64 rk,.int .i64 rb,.int .i64 rp,.int .i64 rn,.int .i64 rs']] w fun e w'=>e = .returned (.int .i64 z)∧Below w.heap.size w w'):=HC z hz1
        have hz0 : (z == 0)=false:=by simp;rw [← hz1];exact he
        clear HC he hz1 hk1 HZ
        go_wp2_with (go_at_call 147;(with_reducible refine (HC0 _).out.mono ?_);rintro e w3 ⟨rfl,hb3⟩)
        go_ret
        exact ⟨rfl,on_below hbx hb3⟩
    · obtain rfl : k=n:=by omega
      have hz1:=HZ.out
      rw [List.drop_of_length_le (by rw [← HN.out];exact Nat.le_refl _)] at hz1
      obtain rfl : z=0:=hz1.symm
      go_wp2
      go_ret
      exact ⟨rfl,hb⟩
end Go.Proofs.YtmimfkhkilijcaaGreatDoor
