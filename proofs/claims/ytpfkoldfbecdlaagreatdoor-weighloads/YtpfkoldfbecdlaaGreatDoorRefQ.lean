/- What dovetailref04.Print does (a contract; nothing is claimed here). -/
import Derived.Test.YtpfkoldfbecdlaaGreatDoorJ13
import Derived.Test.YtpfkoldfbecdlaaGreatDoorTTab1
namespace Go.Proofs.YtpfkoldfbecdlaaGreatDoor
open Go.RowKit Go.Vf Go.Maps
theorem ai5 {a b c:World}(h:Below a.heap.size a b)(k:Below b.heap.size b c):Below a.heap.size a c:=h.trans (k.mono h.size)
theorem abr {tmps:Array Value}{w:World}{a b:Value}(t2:tmps[2]?.getD undef=a)(t3:tmps[3]?.getD undef=b):(results Tryz.f25 tmps).run Tryz.prog w=.ok (.tuple #[a,b]) w:=by
 simp[results,Tryz.results25,go_sem,t2,t3]
theorem a5s {n:Int}(h: -9223372036854775808≤n∧n≤9223372036854775807):IntKind.i64.wrap n=n:=by
 rw[IntWalk.i64_left,IntWalk.wrap64_in n h]
def a7h:Option (List UInt8)→Except Int (List UInt8)
 | none=>.error 2
 | some t=>.ok t
theorem azh (us:List Nat)(h:us≠ []):5*us.length≤(aav us).length+1:=by
 cases us with
 | nil=>exact absurd rfl h
 | cons a r=>
  rw[afz]
  have hp: ∀x,4≤(aad x).length:=fun x=>by rw[aaw,aca];omega
  have h4: ∀(l:List Nat),5*l.length≤(l.flatMap fun x=>(32:UInt8)::aad x).length:=by
   intro l
   induction l with
   | nil=>simp
   | cons b t ih=>have:=hp b;simp at ih⊢;omega
  have h5:=h4 r
  have h6:=hp a
  rw[List.length_append];simp only[List.length_cons];omega
theorem a14 (u c:Nat)(us:List Nat)(h:65537<5*us.length)(acc:List UInt8):65536<(acc++aci u c us).length:=by
 have h1:=azh us (fun e=>by rw[e] at h;simp at h)
 simp[aci]
 omega
set_option maxHeartbeats 4000000 in
set_option maxRecDepth 20000 in
theorem ap4 (l:List PM)(hll:l.length≤4611686018427387904)(hpl: ∀m∈l,m.parts.length≤1048576)(v:Value)(n₀:Nat)(w:World)(hn₀:n₀≤w.heap.size)(hin:MIn n₀ w v l):
  Calls Tryz.prog 25 #[v] w fun e w'=>e=ahw (adh l)∧Below w.heap.size w w':=by
 by_cases hlong:4096<l.length
 ·obtain⟨a,cap,rfl⟩:=hin.val
  have hR:adh l=.error 2:=by unfold adh;rw[if_pos hlong]
  rw[hR]
  go_enter Tryz.func25,Tryz.ntmps25
  go_wp2_with fail
  refine bodyPost_ret (abr rfl rfl) rfl ?_
  exact⟨rfl,Below.refl _ _⟩
 ·have hl:l.length≤4096:=by omega
  have hR:adh l=if acd l (-1) then (match abd l true [] with
   | none=>.error 2
   | some t=>.ok t) else .error 1:=by unfold adh;rw[if_neg hlong];rfl
  generalize adh l=PR at hR
  generalize hC:acd l (-1)=C at hR
  have HC:Hid (acd l (-1)=C):=hC
  have HR:Hid (PR=if C=true then (match abd l true [] with
   | none=>.error 2
   | some t=>.ok t) else .error 1):=hR
  clear hR hC hlong hll
  obtain⟨a,cap,rfl⟩:=hin.val
  go_enter Tryz.func25,Tryz.ntmps25
  go_wp2_with fail
  go_loopw [4] (fun i wr=> ∃(k:Nat) (ab:Int),k≤l.length∧i=.int .i64 k∧Hid (acd (l.drop k) ab=C)∧Hid ((k=0∧ab= -1)∨ ∃(k':Nat) (h:k'<l.length),k=k'+1∧ab=(l[k']).point)∧Below w.heap.size w wr) (fun i _=>l.length-(intOf i).toNat)
  case atStart=>exact⟨0,-1,by omega,rfl,by simpa using HC,.inl ⟨rfl,rfl⟩,Below.refl _ _⟩
  case round=>
   obtain⟨k,ab,hk,rfl,HK,HAB,hbel⟩:=hrel
   by_cases hlt:k<l.length
   ·have hd:l.drop k=l[k]::l.drop (k+1):=List.drop_eq_getElem_cons hlt
    have hnw:n₀≤wr.heap.size:=Nat.le_trans hn₀ hbel.size
    have hinr:=hin.below hbel hn₀
    obtain⟨b,off,hao,pa,pk,pc,c0,c1,c2,hpi⟩:=hinr.at hlt
    subst hao
    have hbw:b<wr.heap.size:=World.block_lt_of_cell? wr _ c0
    have hml:(l[k]).parts.length≤4611686018427387904:=Nat.le_trans (hpl _ (List.getElem_mem hlt)) (by omega)
    have hKK:=HK.out
    rw[hd,acd] at hKK
    have HNX:Hid ((l[k]).point=(l[k]).point):=rfl
    obtain⟨mm,hmm⟩: ∃mm,l[k]=mm:=⟨_,rfl⟩
    have HMM:Hid (l[k]=mm):=hmm
    rw[hmm] at c0 c1 hpi hml hKK
    obtain⟨pt,cl,ps⟩:=mm
    simp only at c0 c1 hpi hml hKK
    clear hmm HK hd HNX
    cases hm:adm ⟨pt,cl,ps⟩ with
    | false=>
     rw[hm] at hKK
     have hCf:C=false:=by
      rw[←hKK];split<;>rfl
     have hPR:PR=.error 1:=by rw[HR.out,hCf];rfl
     clear hKK HR HC hCf HAB
     have HPR:Hid (PR=.error 1):=hPR
     clear hPR
     go_upto_region 6 with fail
     have s0:(wr.cell? ⟨b,off+k*3,none⟩=some (.int .i64 pt)∧wr.cell? ⟨b,off+k*3+1,none⟩=some (.int .i64 cl)∧wr.cell? ⟨b,off+k*3+2,none⟩=some (.slice pa pk pc))∧Below wr.heap.size wr wr:=⟨⟨c0,c1,c2⟩,Below.refl _ _⟩
     have HKeep:Hid (∀x y:World,(x.cell? ⟨b,off+k*3,none⟩=some (.int .i64 pt)∧x.cell? ⟨b,off+k*3+1,none⟩=some (.int .i64 cl)∧x.cell? ⟨b,off+k*3+2,none⟩=some (.slice pa pk pc))∧Below wr.heap.size wr x→Below wr.heap.size x y→(y.cell? ⟨b,off+k*3,none⟩=some (.int .i64 pt)∧y.cell? ⟨b,off+k*3+1,none⟩=some (.int .i64 cl)∧y.cell? ⟨b,off+k*3+2,none⟩=some (.slice pa pk pc))∧Below wr.heap.size wr y):=fun x y h1 h2=>⟨⟨(h2.cell hbw).trans h1.1.1,(h2.cell hbw).trans h1.1.2.1,(h2.cell hbw).trans h1.1.2.2⟩,h1.2.trans h2⟩
     have HMAY:Hid (∀x:World,(x.cell? ⟨b,off+k*3,none⟩=some (.int .i64 pt)∧x.cell? ⟨b,off+k*3+1,none⟩=some (.int .i64 cl)∧x.cell? ⟨b,off+k*3+2,none⟩=some (.slice pa pk pc))∧Below wr.heap.size wr x→Calls Tryz.prog 70 #[.agg #[.int .i64 pt,.int .i64 cl,.slice pa pk pc]] x fun e w'=>e=.returned (.bool false)∧Below x.heap.size x w'):=fun x hx=>by
      have:=aji n₀ ⟨pt,cl,ps⟩ pa pk pc x (Nat.le_trans hnw hx.2.size) (hpi.below hx.2 hnw) hml
      rwa [hm] at this
     clear hpi hml hm hinr
     refine wp_region_held_drew (S:=fun x=>(x.cell? ⟨b,off+k*3,none⟩=some (.int .i64 pt)∧x.cell? ⟨b,off+k*3+1,none⟩=some (.int .i64 cl)∧x.cell? ⟨b,off+k*3+2,none⟩=some (.slice pa pk pc))∧Below wr.heap.size wr x) (by kernel_rfl) (HKeep.out _ _ s0 (Below.drew (Below.refl _ _))) (fun hHeld=> ?_)
     refine aaa (i:=0) (some 16) (v:= ?va0) rfl rfl (by kernel_rfl) (by kernel_rfl) (by kernel_rfl) (fun _ _ _ h=>h) (Or.inl ⟨by kernel_rfl,?hya0⟩) (by assumption) ?resta0
     case hya0=>(intro w hSw;(try dsimp only at hSw);go_simp;first | done | with_reducible rfl)
     try simp only[Act.put,List.setIfInBounds_toArray,List.set_cons_zero,List.set_cons_succ]
     refine aaa (i:=1) (some 17) (v:= ?va1) rfl rfl (by kernel_rfl) (by kernel_rfl) (by kernel_rfl) (fun _ _ _ h=>h) (Or.inl ⟨by kernel_rfl,?hya1⟩) (by assumption) ?resta1
     case hya1=>(intro w hSw;(try dsimp only at hSw);go_simp;first | done | with_reducible rfl)
     try simp only[Act.put,List.setIfInBounds_toArray,List.set_cons_zero,List.set_cons_succ]
     refine aaa (i:=2) (some 18) (v:= ?va2) rfl rfl (by kernel_rfl) (by kernel_rfl) (by kernel_rfl) (fun _ _ _ h=>h) (Or.inl ⟨by kernel_rfl,?hya2⟩) (by assumption) ?resta2
     case hya2=>(intro w hSw;(try dsimp only at hSw);go_simp;first | done | with_reducible rfl)
     try simp only[Act.put,List.setIfInBounds_toArray,List.set_cons_zero,List.set_cons_succ]
     refine aaa (i:=3) (some 19) (v:= ?va3) rfl rfl (by kernel_rfl) (by kernel_rfl) (by kernel_rfl) (fun _ _ _ h=>h) (Or.inl ⟨by kernel_rfl,?hya3⟩) (by assumption) ?resta3
     case hya3=>(intro w hSw;(try dsimp only at hSw);go_simp;first | done | with_reducible rfl)
     try simp only[Act.put,List.setIfInBounds_toArray,List.set_cons_zero,List.set_cons_succ]
     refine wpAnyH_ready (rs:=[4]) (by kernel_rfl) (by simp) ?_
     refine AllReadyH.cons rfl (fun K hK=> ?_) AllReadyH.nil
     go_simp
     go_wp2_with (go_at_call 70;refine(HMAY.out _ hHeld).mono ?_;rintro e w4 ⟨rfl,hb4⟩)
     refine hK.out _ _ (HKeep.out _ _ hHeld (ab3 hHeld hb4)) (fun hHeld4=> ?_)
     clear hK K
     refine aaa (i:=5) (some 21) (v:= ?va5) rfl rfl (by kernel_rfl) (by kernel_rfl) (by kernel_rfl) (fun _ _ _ h=>h) (Or.inl ⟨by kernel_rfl,?hya5⟩) (by assumption) ?resta5
     case hya5=>(intro w hSw;(try dsimp only at hSw);go_simp;first | done | with_reducible rfl)
     try simp only[Act.put,List.setIfInBounds_toArray,List.set_cons_zero,List.set_cons_succ]
     refine aaa (i:=6) (some 22) (v:= ?va6) rfl rfl (by kernel_rfl) (by kernel_rfl) (by kernel_rfl) (fun _ _ _ h=>h) (Or.inl ⟨by kernel_rfl,?hya6⟩) (by assumption) ?resta6
     case hya6=>(intro w hSw;(try dsimp only at hSw);go_simp;first | done | with_reducible rfl)
     try simp only[Act.put,List.setIfInBounds_toArray,List.set_cons_zero,List.set_cons_succ]
     refine aaa (i:=7) (some 23) (v:=undef) rfl rfl (by kernel_rfl) (by kernel_rfl) (by kernel_rfl) (fun _ _ _ h=>h) (Or.inr ⟨by kernel_rfl,rfl⟩) (by assumption) ?_
     try simp only[Act.put,List.setIfInBounds_toArray,List.set_cons_zero,List.set_cons_succ]
     refine aaa (i:=8) (some 24) (v:=undef) rfl rfl (by kernel_rfl) (by kernel_rfl) (by kernel_rfl) (fun _ _ _ h=>h) (Or.inr ⟨by kernel_rfl,rfl⟩) (by assumption) ?_
     try simp only[Act.put,List.setIfInBounds_toArray,List.set_cons_zero,List.set_cons_succ]
     refine aaa (i:=9) (some 25) (v:=undef) rfl rfl (by kernel_rfl) (by kernel_rfl) (by kernel_rfl) (fun _ _ _ h=>h) (Or.inr ⟨by kernel_rfl,rfl⟩) (by assumption) ?_
     try simp only[Act.put,List.setIfInBounds_toArray,List.set_cons_zero,List.set_cons_succ]
     refine aaa (i:=10) (some 26) (v:=undef) rfl rfl (by kernel_rfl) (by kernel_rfl) (by kernel_rfl) (fun _ _ _ h=>h) (Or.inr ⟨by kernel_rfl,rfl⟩) (by assumption) ?_
     try simp only[Act.put,List.setIfInBounds_toArray,List.set_cons_zero,List.set_cons_succ]
     refine aaa (i:=11) (some 27) (v:=undef) rfl rfl (by kernel_rfl) (by kernel_rfl) (by kernel_rfl) (fun _ _ _ h=>h) (Or.inr ⟨by kernel_rfl,rfl⟩) (by assumption) ?_
     try simp only[Act.put,List.setIfInBounds_toArray,List.set_cons_zero,List.set_cons_succ]
     refine aaa (i:=12) (some 28) (v:=undef) rfl rfl (by kernel_rfl) (by kernel_rfl) (by kernel_rfl) (fun _ _ _ h=>h) (Or.inr ⟨by kernel_rfl,rfl⟩) (by assumption) ?_
     try simp only[Act.put,List.setIfInBounds_toArray,List.set_cons_zero,List.set_cons_succ]
     refine aaa (i:=13) (some 29) (v:=undef) rfl rfl (by kernel_rfl) (by kernel_rfl) (by kernel_rfl) (fun _ _ _ h=>h) (Or.inr ⟨by kernel_rfl,rfl⟩) (by assumption) ?_
     try simp only[Act.put,List.setIfInBounds_toArray,List.set_cons_zero,List.set_cons_succ]
     refine aaa (i:=14) (some 30) (v:=undef) rfl rfl (by kernel_rfl) (by kernel_rfl) (by kernel_rfl) (fun _ _ _ h=>h) (Or.inr ⟨by kernel_rfl,rfl⟩) (by assumption) ?_
     try simp only[Act.put,List.setIfInBounds_toArray,List.set_cons_zero,List.set_cons_succ]
     refine aaa (i:=15) (some 31) (v:=undef) rfl rfl (by kernel_rfl) (by kernel_rfl) (by kernel_rfl) (fun _ _ _ h=>h) (Or.inr ⟨by kernel_rfl,rfl⟩) (by assumption) ?_
     try simp only[Act.put,List.setIfInBounds_toArray,List.set_cons_zero,List.set_cons_succ]
     refine aaa (i:=16) (some 32) (v:=undef) rfl rfl (by kernel_rfl) (by kernel_rfl) (by kernel_rfl) (fun _ _ _ h=>h) (Or.inr ⟨by kernel_rfl,rfl⟩) (by assumption) ?_
     try simp only[Act.put,List.setIfInBounds_toArray,List.set_cons_zero,List.set_cons_succ]
     refine aaa (i:=17) (some 33) (v:=undef) rfl rfl (by kernel_rfl) (by kernel_rfl) (by kernel_rfl) (fun _ _ _ h=>h) (Or.inr ⟨by kernel_rfl,rfl⟩) (by assumption) ?_
     try simp only[Act.put,List.setIfInBounds_toArray,List.set_cons_zero,List.set_cons_succ]
     refine aaa (i:=18) (some 34) (v:=undef) rfl rfl (by kernel_rfl) (by kernel_rfl) (by kernel_rfl) (fun _ _ _ h=>h) (Or.inr ⟨by kernel_rfl,rfl⟩) (by assumption) ?_
     try simp only[Act.put,List.setIfInBounds_toArray,List.set_cons_zero,List.set_cons_succ]
     refine aaa (i:=19) (some 35) (v:=undef) rfl rfl (by kernel_rfl) (by kernel_rfl) (by kernel_rfl) (fun _ _ _ h=>h) (Or.inr ⟨by kernel_rfl,rfl⟩) (by assumption) ?_
     try simp only[Act.put,List.setIfInBounds_toArray,List.set_cons_zero,List.set_cons_succ]
     refine aaa (i:=20) (some 36) (v:=undef) rfl rfl (by kernel_rfl) (by kernel_rfl) (by kernel_rfl) (fun _ _ _ h=>h) (Or.inr ⟨by kernel_rfl,rfl⟩) (by assumption) ?_
     try simp only[Act.put,List.setIfInBounds_toArray,List.set_cons_zero,List.set_cons_succ]
     refine aaa (i:=21) (some 37) (v:=undef) rfl rfl (by kernel_rfl) (by kernel_rfl) (by kernel_rfl) (fun _ _ _ h=>h) (Or.inr ⟨by kernel_rfl,rfl⟩) (by assumption) ?_
     try simp only[Act.put,List.setIfInBounds_toArray,List.set_cons_zero,List.set_cons_succ]
     refine aaa (i:=22) (some 38) (v:=undef) rfl rfl (by kernel_rfl) (by kernel_rfl) (by kernel_rfl) (fun _ _ _ h=>h) (Or.inr ⟨by kernel_rfl,rfl⟩) (by assumption) ?_
     try simp only[Act.put,List.setIfInBounds_toArray,List.set_cons_zero,List.set_cons_succ]
     refine aaa (i:=23) (some 39) (v:= ?va23) rfl rfl (by kernel_rfl) (by kernel_rfl) (by kernel_rfl) (fun _ _ _ h=>h) (Or.inl ⟨by kernel_rfl,?hya23⟩) (by assumption) ?resta23
     case hya23=>(intro w hSw;(try dsimp only at hSw);go_simp;first | done | with_reducible rfl)
     try simp only[Act.put,List.setIfInBounds_toArray,List.set_cons_zero,List.set_cons_succ]
     refine wpAnyH_done (by kernel_rfl) ?_ _
     go_wp2_with fail
     refine bodyPost_ret (abr rfl rfl) rfl ?_
     exact⟨by rw[HPR.out];rfl,ai5 hbel hHeld4.2⟩
    | true=>
     rw[hm] at hKK
     simp only[if_true] at hKK
     rcases HAB.out with ⟨rfl,rfl⟩ | ⟨k',hk',rfl,rfl⟩
     ·have hge: ¬pt≤ -1:=by
       have:=(alc hm).1
       unfold ada at this
       simp at this
       omega
      rw[if_neg hge] at hKK
      have HK1:Hid (acd (l.drop 1) pt=C):=hKK
      clear hKK HAB hge
      simp only[Nat.zero_mul,Nat.add_zero] at c0 c1 c2
      go_upto_region 6 with fail
      have s0:(wr.cell? ⟨b,off,none⟩=some (.int .i64 pt)∧wr.cell? ⟨b,off+1,none⟩=some (.int .i64 cl)∧wr.cell? ⟨b,off+2,none⟩=some (.slice pa pk pc))∧Below wr.heap.size wr wr:=⟨⟨c0,c1,c2⟩,Below.refl _ _⟩
      have HKeep:Hid (∀x y:World,(x.cell? ⟨b,off,none⟩=some (.int .i64 pt)∧x.cell? ⟨b,off+1,none⟩=some (.int .i64 cl)∧x.cell? ⟨b,off+2,none⟩=some (.slice pa pk pc))∧Below wr.heap.size wr x→Below wr.heap.size x y→(y.cell? ⟨b,off,none⟩=some (.int .i64 pt)∧y.cell? ⟨b,off+1,none⟩=some (.int .i64 cl)∧y.cell? ⟨b,off+2,none⟩=some (.slice pa pk pc))∧Below wr.heap.size wr y):=fun x y h1 h2=>⟨⟨(h2.cell hbw).trans h1.1.1,(h2.cell hbw).trans h1.1.2.1,(h2.cell hbw).trans h1.1.2.2⟩,h1.2.trans h2⟩
      have HMAY:Hid (∀x:World,(x.cell? ⟨b,off,none⟩=some (.int .i64 pt)∧x.cell? ⟨b,off+1,none⟩=some (.int .i64 cl)∧x.cell? ⟨b,off+2,none⟩=some (.slice pa pk pc))∧Below wr.heap.size wr x→Calls Tryz.prog 70 #[.agg #[.int .i64 pt,.int .i64 cl,.slice pa pk pc]] x fun e w'=>e=.returned (.bool true)∧Below x.heap.size x w'):=fun x hx=>by
       have:=aji n₀ ⟨pt,cl,ps⟩ pa pk pc x (Nat.le_trans hnw hx.2.size) (hpi.below hx.2 hnw) hml
       rwa [hm] at this
      clear hpi hml hm hinr
      refine wp_region_held_drew (S:=fun x=>(x.cell? ⟨b,off,none⟩=some (.int .i64 pt)∧x.cell? ⟨b,off+1,none⟩=some (.int .i64 cl)∧x.cell? ⟨b,off+2,none⟩=some (.slice pa pk pc))∧Below wr.heap.size wr x) (by kernel_rfl) (HKeep.out _ _ s0 (Below.drew (Below.refl _ _))) (fun hHeld=> ?_)
      refine aaa (i:=0) (some 16) (v:= ?vb0) rfl rfl (by kernel_rfl) (by kernel_rfl) (by kernel_rfl) (fun _ _ _ h=>h) (Or.inl ⟨by kernel_rfl,?hyb0⟩) (by assumption) ?restb0
      case hyb0=>(intro w hSw;(try dsimp only at hSw);go_simp;first | done | with_reducible rfl)
      try simp only[Act.put,List.setIfInBounds_toArray,List.set_cons_zero,List.set_cons_succ]
      refine aaa (i:=1) (some 17) (v:= ?vb1) rfl rfl (by kernel_rfl) (by kernel_rfl) (by kernel_rfl) (fun _ _ _ h=>h) (Or.inl ⟨by kernel_rfl,?hyb1⟩) (by assumption) ?restb1
      case hyb1=>(intro w hSw;(try dsimp only at hSw);go_simp;first | done | with_reducible rfl)
      try simp only[Act.put,List.setIfInBounds_toArray,List.set_cons_zero,List.set_cons_succ]
      refine aaa (i:=2) (some 18) (v:= ?vb2) rfl rfl (by kernel_rfl) (by kernel_rfl) (by kernel_rfl) (fun _ _ _ h=>h) (Or.inl ⟨by kernel_rfl,?hyb2⟩) (by assumption) ?restb2
      case hyb2=>(intro w hSw;(try dsimp only at hSw);go_simp;first | done | with_reducible rfl)
      try simp only[Act.put,List.setIfInBounds_toArray,List.set_cons_zero,List.set_cons_succ]
      refine aaa (i:=3) (some 19) (v:= ?vb3) rfl rfl (by kernel_rfl) (by kernel_rfl) (by kernel_rfl) (fun _ _ _ h=>h) (Or.inl ⟨by kernel_rfl,?hyb3⟩) (by assumption) ?restb3
      case hyb3=>(intro w hSw;(try dsimp only at hSw);go_simp;first | done | with_reducible rfl)
      try simp only[Act.put,List.setIfInBounds_toArray,List.set_cons_zero,List.set_cons_succ]
      refine wpAnyH_ready (rs:=[4]) (by kernel_rfl) (by simp) ?_
      refine AllReadyH.cons rfl (fun K hK=> ?_) AllReadyH.nil
      go_simp
      go_wp2_with (go_at_call 70;refine(HMAY.out _ hHeld).mono ?_;rintro e w4 ⟨rfl,hb4⟩)
      refine hK.out _ _ (HKeep.out _ _ hHeld (ab3 hHeld hb4)) (fun hHeld4=> ?_)
      clear hK K
      refine aaa (i:=5) (some 21) (v:= ?vb5) rfl rfl (by kernel_rfl) (by kernel_rfl) (by kernel_rfl) (fun _ _ _ h=>h) (Or.inl ⟨by kernel_rfl,?hyb5⟩) (by assumption) ?restb5
      case hyb5=>(intro w hSw;(try dsimp only at hSw);go_simp;first | done | with_reducible rfl)
      try simp only[Act.put,List.setIfInBounds_toArray,List.set_cons_zero,List.set_cons_succ]
      refine aaa (i:=6) (some 22) (v:= ?vb6) rfl rfl (by kernel_rfl) (by kernel_rfl) (by kernel_rfl) (fun _ _ _ h=>h) (Or.inl ⟨by kernel_rfl,?hyb6⟩) (by assumption) ?restb6
      case hyb6=>(intro w hSw;(try dsimp only at hSw);go_simp;first | done | with_reducible rfl)
      try simp only[Act.put,List.setIfInBounds_toArray,List.set_cons_zero,List.set_cons_succ]
      refine aaa (i:=7) (some 23) (v:= ?vb7) rfl rfl (by kernel_rfl) (by kernel_rfl) (by kernel_rfl) (fun _ _ _ h=>h) (Or.inl ⟨by kernel_rfl,?hyb7⟩) (by assumption) ?restb7
      case hyb7=>(intro w hSw;(try dsimp only at hSw);go_simp;first | done | with_reducible rfl)
      try simp only[Act.put,List.setIfInBounds_toArray,List.set_cons_zero,List.set_cons_succ]
      refine aaa (i:=8) (some 24) (v:= ?vb8) rfl rfl (by kernel_rfl) (by kernel_rfl) (by kernel_rfl) (fun _ _ _ h=>h) (Or.inl ⟨by kernel_rfl,?hyb8⟩) (by assumption) ?restb8
      case hyb8=>(intro w hSw;(try dsimp only at hSw);go_simp;first | done | with_reducible rfl)
      try simp only[Act.put,List.setIfInBounds_toArray,List.set_cons_zero,List.set_cons_succ]
      refine aaa (i:=9) (some 25) (v:= ?vb9) rfl rfl (by kernel_rfl) (by kernel_rfl) (by kernel_rfl) (fun _ _ _ h=>h) (Or.inl ⟨by kernel_rfl,?hyb9⟩) (by assumption) ?restb9
      case hyb9=>(intro w hSw;(try dsimp only at hSw);go_simp;first | done | with_reducible rfl)
      try simp only[Act.put,List.setIfInBounds_toArray,List.set_cons_zero,List.set_cons_succ]
      refine aaa (i:=10) (some 26) (v:=undef) rfl rfl (by kernel_rfl) (by kernel_rfl) (by kernel_rfl) (fun _ _ _ h=>h) (Or.inr ⟨by kernel_rfl,rfl⟩) (by assumption) ?_
      try simp only[Act.put,List.setIfInBounds_toArray,List.set_cons_zero,List.set_cons_succ]
      refine aaa (i:=11) (some 27) (v:=undef) rfl rfl (by kernel_rfl) (by kernel_rfl) (by kernel_rfl) (fun _ _ _ h=>h) (Or.inr ⟨by kernel_rfl,rfl⟩) (by assumption) ?_
      try simp only[Act.put,List.setIfInBounds_toArray,List.set_cons_zero,List.set_cons_succ]
      refine aaa (i:=12) (some 28) (v:=undef) rfl rfl (by kernel_rfl) (by kernel_rfl) (by kernel_rfl) (fun _ _ _ h=>h) (Or.inr ⟨by kernel_rfl,rfl⟩) (by assumption) ?_
      try simp only[Act.put,List.setIfInBounds_toArray,List.set_cons_zero,List.set_cons_succ]
      refine aaa (i:=13) (some 29) (v:=undef) rfl rfl (by kernel_rfl) (by kernel_rfl) (by kernel_rfl) (fun _ _ _ h=>h) (Or.inr ⟨by kernel_rfl,rfl⟩) (by assumption) ?_
      try simp only[Act.put,List.setIfInBounds_toArray,List.set_cons_zero,List.set_cons_succ]
      refine aaa (i:=14) (some 30) (v:=undef) rfl rfl (by kernel_rfl) (by kernel_rfl) (by kernel_rfl) (fun _ _ _ h=>h) (Or.inr ⟨by kernel_rfl,rfl⟩) (by assumption) ?_
      try simp only[Act.put,List.setIfInBounds_toArray,List.set_cons_zero,List.set_cons_succ]
      refine aaa (i:=15) (some 31) (v:=undef) rfl rfl (by kernel_rfl) (by kernel_rfl) (by kernel_rfl) (fun _ _ _ h=>h) (Or.inr ⟨by kernel_rfl,rfl⟩) (by assumption) ?_
      try simp only[Act.put,List.setIfInBounds_toArray,List.set_cons_zero,List.set_cons_succ]
      refine aaa (i:=16) (some 32) (v:=undef) rfl rfl (by kernel_rfl) (by kernel_rfl) (by kernel_rfl) (fun _ _ _ h=>h) (Or.inr ⟨by kernel_rfl,rfl⟩) (by assumption) ?_
      try simp only[Act.put,List.setIfInBounds_toArray,List.set_cons_zero,List.set_cons_succ]
      refine aaa (i:=17) (some 33) (v:=undef) rfl rfl (by kernel_rfl) (by kernel_rfl) (by kernel_rfl) (fun _ _ _ h=>h) (Or.inr ⟨by kernel_rfl,rfl⟩) (by assumption) ?_
      try simp only[Act.put,List.setIfInBounds_toArray,List.set_cons_zero,List.set_cons_succ]
      refine aaa (i:=18) (some 34) (v:=undef) rfl rfl (by kernel_rfl) (by kernel_rfl) (by kernel_rfl) (fun _ _ _ h=>h) (Or.inr ⟨by kernel_rfl,rfl⟩) (by assumption) ?_
      try simp only[Act.put,List.setIfInBounds_toArray,List.set_cons_zero,List.set_cons_succ]
      refine aaa (i:=19) (some 35) (v:=undef) rfl rfl (by kernel_rfl) (by kernel_rfl) (by kernel_rfl) (fun _ _ _ h=>h) (Or.inr ⟨by kernel_rfl,rfl⟩) (by assumption) ?_
      try simp only[Act.put,List.setIfInBounds_toArray,List.set_cons_zero,List.set_cons_succ]
      refine aaa (i:=20) (some 36) (v:=undef) rfl rfl (by kernel_rfl) (by kernel_rfl) (by kernel_rfl) (fun _ _ _ h=>h) (Or.inr ⟨by kernel_rfl,rfl⟩) (by assumption) ?_
      try simp only[Act.put,List.setIfInBounds_toArray,List.set_cons_zero,List.set_cons_succ]
      refine aaa (i:=21) (some 37) (v:=undef) rfl rfl (by kernel_rfl) (by kernel_rfl) (by kernel_rfl) (fun _ _ _ h=>h) (Or.inr ⟨by kernel_rfl,rfl⟩) (by assumption) ?_
      try simp only[Act.put,List.setIfInBounds_toArray,List.set_cons_zero,List.set_cons_succ]
      refine aaa (i:=22) (some 38) (v:= ?vb22) rfl rfl (by kernel_rfl) (by kernel_rfl) (by kernel_rfl) (fun _ _ _ h=>h) (Or.inl ⟨by kernel_rfl,?hyb22⟩) (by assumption) ?restb22
      case hyb22=>(intro w hSw;(try dsimp only at hSw);go_simp;first | done | with_reducible rfl)
      try simp only[Act.put,List.setIfInBounds_toArray,List.set_cons_zero,List.set_cons_succ]
      refine aaa (i:=23) (some 39) (v:= ?vb23) rfl rfl (by kernel_rfl) (by kernel_rfl) (by kernel_rfl) (fun _ _ _ h=>h) (Or.inl ⟨by kernel_rfl,?hyb23⟩) (by assumption) ?restb23
      case hyb23=>(intro w hSw;(try dsimp only at hSw);go_simp;first | done | with_reducible rfl)
      try simp only[Act.put,List.setIfInBounds_toArray,List.set_cons_zero,List.set_cons_succ]
      refine wpAnyH_done (by kernel_rfl) ?_ _
      go_wp2_with fail
      go_roundw
      case rel=>exact⟨1,pt,by omega,by go_num,HK1,.inr ⟨0,hlt,rfl,by rw[HMM.out]⟩,ai5 hbel hHeld4.2⟩
      case measure=>simp only[intOf];omega
     ·obtain⟨b2,off2,hao2,_,_,_,d0,_⟩:=hinr.at hk'
      cases hao2
      generalize (l[k']).point=pq at d0 hKK
      obtain⟨le,gle⟩: ∃le,decide (pt≤pq)=le:=⟨_,rfl⟩
      have HLE:Hid (le=decide (pt≤pq)):=gle.symm
      have g8:decide ((0:Int)<(k':Int)+1)=true:=decide_eq_true (by omega)
      have hq0:(0:Int)≤(k':Int)+1:=by omega
      have hq1:(0:Int)≤(k':Int):=by omega
      have hq2:(k':Int)<(l.length:Int):=by omega
      have hq3:(k':Int)+1<(l.length:Int):=by omega
      have HK1:Hid ((if pt≤pq then false else acd (l.drop (k'+1+1)) pt)=C):=hKK
      clear hKK HAB
      go_upto_region 6 with fail
      have s0:(wr.cell? ⟨b,off+(k'+1)*3,none⟩=some (.int .i64 pt)∧wr.cell? ⟨b,off+(k'+1)*3+1,none⟩=some (.int .i64 cl)∧wr.cell? ⟨b,off+(k'+1)*3+2,none⟩=some (.slice pa pk pc)∧wr.cell? ⟨b,off+k'*3,none⟩=some (.int .i64 pq))∧Below wr.heap.size wr wr:=⟨⟨c0,c1,c2,d0⟩,Below.refl _ _⟩
      have HKeep:Hid (∀x y:World,(x.cell? ⟨b,off+(k'+1)*3,none⟩=some (.int .i64 pt)∧x.cell? ⟨b,off+(k'+1)*3+1,none⟩=some (.int .i64 cl)∧x.cell? ⟨b,off+(k'+1)*3+2,none⟩=some (.slice pa pk pc)∧x.cell? ⟨b,off+k'*3,none⟩=some (.int .i64 pq))∧Below wr.heap.size wr x→Below wr.heap.size x y→(y.cell? ⟨b,off+(k'+1)*3,none⟩=some (.int .i64 pt)∧y.cell? ⟨b,off+(k'+1)*3+1,none⟩=some (.int .i64 cl)∧y.cell? ⟨b,off+(k'+1)*3+2,none⟩=some (.slice pa pk pc)∧y.cell? ⟨b,off+k'*3,none⟩=some (.int .i64 pq))∧Below wr.heap.size wr y):=fun x y h1 h2=>⟨⟨(h2.cell hbw).trans h1.1.1,(h2.cell hbw).trans h1.1.2.1,(h2.cell hbw).trans h1.1.2.2.1,(h2.cell hbw).trans h1.1.2.2.2⟩,h1.2.trans h2⟩
      have HMAY:Hid (∀x:World,(x.cell? ⟨b,off+(k'+1)*3,none⟩=some (.int .i64 pt)∧x.cell? ⟨b,off+(k'+1)*3+1,none⟩=some (.int .i64 cl)∧x.cell? ⟨b,off+(k'+1)*3+2,none⟩=some (.slice pa pk pc)∧x.cell? ⟨b,off+k'*3,none⟩=some (.int .i64 pq))∧Below wr.heap.size wr x→Calls Tryz.prog 70 #[.agg #[.int .i64 pt,.int .i64 cl,.slice pa pk pc]] x fun e w'=>e=.returned (.bool true)∧Below x.heap.size x w'):=fun x hx=>by
       have:=aji n₀ ⟨pt,cl,ps⟩ pa pk pc x (Nat.le_trans hnw hx.2.size) (hpi.below hx.2 hnw) hml
       rwa [hm] at this
      clear hpi hml hm hinr
      refine wp_region_held_drew (S:=fun x=>(x.cell? ⟨b,off+(k'+1)*3,none⟩=some (.int .i64 pt)∧x.cell? ⟨b,off+(k'+1)*3+1,none⟩=some (.int .i64 cl)∧x.cell? ⟨b,off+(k'+1)*3+2,none⟩=some (.slice pa pk pc)∧x.cell? ⟨b,off+k'*3,none⟩=some (.int .i64 pq))∧Below wr.heap.size wr x) (by kernel_rfl) (HKeep.out _ _ s0 (Below.drew (Below.refl _ _))) (fun hHeld=> ?_)
      refine aaa (i:=0) (some 16) (v:= ?vc0) rfl rfl (by kernel_rfl) (by kernel_rfl) (by kernel_rfl) (fun _ _ _ h=>h) (Or.inl ⟨by kernel_rfl,?hyc0⟩) (by assumption) ?restc0
      case hyc0=>(intro w hSw;(try dsimp only at hSw);go_simp;first | done | with_reducible rfl)
      try simp only[Act.put,List.setIfInBounds_toArray,List.set_cons_zero,List.set_cons_succ]
      refine aaa (i:=1) (some 17) (v:= ?vc1) rfl rfl (by kernel_rfl) (by kernel_rfl) (by kernel_rfl) (fun _ _ _ h=>h) (Or.inl ⟨by kernel_rfl,?hyc1⟩) (by assumption) ?restc1
      case hyc1=>(intro w hSw;(try dsimp only at hSw);go_simp;first | done | with_reducible rfl)
      try simp only[Act.put,List.setIfInBounds_toArray,List.set_cons_zero,List.set_cons_succ]
      refine aaa (i:=2) (some 18) (v:= ?vc2) rfl rfl (by kernel_rfl) (by kernel_rfl) (by kernel_rfl) (fun _ _ _ h=>h) (Or.inl ⟨by kernel_rfl,?hyc2⟩) (by assumption) ?restc2
      case hyc2=>(intro w hSw;(try dsimp only at hSw);go_simp;first | done | with_reducible rfl)
      try simp only[Act.put,List.setIfInBounds_toArray,List.set_cons_zero,List.set_cons_succ]
      refine aaa (i:=3) (some 19) (v:= ?vc3) rfl rfl (by kernel_rfl) (by kernel_rfl) (by kernel_rfl) (fun _ _ _ h=>h) (Or.inl ⟨by kernel_rfl,?hyc3⟩) (by assumption) ?restc3
      case hyc3=>(intro w hSw;(try dsimp only at hSw);go_simp;first | done | with_reducible rfl)
      try simp only[Act.put,List.setIfInBounds_toArray,List.set_cons_zero,List.set_cons_succ]
      refine wpAnyH_ready (rs:=[4]) (by kernel_rfl) (by simp) ?_
      refine AllReadyH.cons rfl (fun K hK=> ?_) AllReadyH.nil
      go_simp
      go_wp2_with (go_at_call 70;refine(HMAY.out _ hHeld).mono ?_;rintro e w4 ⟨rfl,hb4⟩)
      refine hK.out _ _ (HKeep.out _ _ hHeld (ab3 hHeld hb4)) (fun hHeld4=> ?_)
      clear hK K
      refine aaa (i:=5) (some 21) (v:= ?vc5) rfl rfl (by kernel_rfl) (by kernel_rfl) (by kernel_rfl) (fun _ _ _ h=>h) (Or.inl ⟨by kernel_rfl,?hyc5⟩) (by assumption) ?restc5
      case hyc5=>(intro w hSw;(try dsimp only at hSw);go_simp;first | done | with_reducible rfl)
      try simp only[Act.put,List.setIfInBounds_toArray,List.set_cons_zero,List.set_cons_succ]
      refine aaa (i:=6) (some 22) (v:= ?vc6) rfl rfl (by kernel_rfl) (by kernel_rfl) (by kernel_rfl) (fun _ _ _ h=>h) (Or.inl ⟨by kernel_rfl,?hyc6⟩) (by assumption) ?restc6
      case hyc6=>(intro w hSw;(try dsimp only at hSw);go_simp;first | done | with_reducible rfl)
      try simp only[Act.put,List.setIfInBounds_toArray,List.set_cons_zero,List.set_cons_succ]
      refine aaa (i:=7) (some 23) (v:= ?vc7) rfl rfl (by kernel_rfl) (by kernel_rfl) (by kernel_rfl) (fun _ _ _ h=>h) (Or.inl ⟨by kernel_rfl,?hyc7⟩) (by assumption) ?restc7
      case hyc7=>(intro w hSw;(try dsimp only at hSw);go_simp;first | done | with_reducible rfl)
      try simp only[Act.put,List.setIfInBounds_toArray,List.set_cons_zero,List.set_cons_succ]
      refine aaa (i:=8) (some 24) (v:=.bool true) rfl rfl (by kernel_rfl) (by kernel_rfl) (by kernel_rfl) (fun _ _ _ h=>h) (Or.inl ⟨by kernel_rfl,?hyc8⟩) (by assumption) ?restc8
      case hyc8=>(intro w hSw;(try dsimp only at hSw);go_simp;first | done | exact g8 | (simp;omega))
      try simp only[Act.put,List.setIfInBounds_toArray,List.set_cons_zero,List.set_cons_succ]
      refine aaa (i:=9) (some 25) (v:= ?vc9) rfl rfl (by kernel_rfl) (by kernel_rfl) (by kernel_rfl) (fun _ _ _ h=>h) (Or.inl ⟨by kernel_rfl,?hyc9⟩) (by assumption) ?restc9
      case hyc9=>(intro w hSw;(try dsimp only at hSw);go_simp;first | done | with_reducible rfl)
      try simp only[Act.put,List.setIfInBounds_toArray,List.set_cons_zero,List.set_cons_succ]
      refine aaa (i:=10) (some 26) (v:= ?vc10) rfl rfl (by kernel_rfl) (by kernel_rfl) (by kernel_rfl) (fun _ _ _ h=>h) (Or.inl ⟨by kernel_rfl,?hyc10⟩) (by assumption) ?restc10
      case hyc10=>(intro w hSw;(try dsimp only at hSw);go_simp;first | done | with_reducible rfl)
      try simp only[Act.put,List.setIfInBounds_toArray,List.set_cons_zero,List.set_cons_succ]
      refine aaa (i:=11) (some 27) (v:= ?vc11) rfl rfl (by kernel_rfl) (by kernel_rfl) (by kernel_rfl) (fun _ _ _ h=>h) (Or.inl ⟨by kernel_rfl,?hyc11⟩) (by assumption) ?restc11
      case hyc11=>(intro w hSw;(try dsimp only at hSw);go_simp;first | done | with_reducible rfl)
      try simp only[Act.put,List.setIfInBounds_toArray,List.set_cons_zero,List.set_cons_succ]
      refine aaa (i:=12) (some 28) (v:= ?vc12) rfl rfl (by kernel_rfl) (by kernel_rfl) (by kernel_rfl) (fun _ _ _ h=>h) (Or.inl ⟨by kernel_rfl,?hyc12⟩) (by assumption) ?restc12
      case hyc12=>(intro w hSw;(try dsimp only at hSw);go_simp;first | done | with_reducible rfl)
      try simp only[Act.put,List.setIfInBounds_toArray,List.set_cons_zero,List.set_cons_succ]
      refine aaa (i:=13) (some 29) (v:= ?vc13) rfl rfl (by kernel_rfl) (by kernel_rfl) (by kernel_rfl) (fun _ _ _ h=>h) (Or.inl ⟨by kernel_rfl,?hyc13⟩) (by assumption) ?restc13
      case hyc13=>(intro w hSw;(try dsimp only at hSw);go_simp;first | done | with_reducible rfl)
      try simp only[Act.put,List.setIfInBounds_toArray,List.set_cons_zero,List.set_cons_succ]
      refine aaa (i:=14) (some 30) (v:= ?vc14) rfl rfl (by kernel_rfl) (by kernel_rfl) (by kernel_rfl) (fun _ _ _ h=>h) (Or.inl ⟨by kernel_rfl,?hyc14⟩) (by assumption) ?restc14
      case hyc14=>(intro w hSw;(try dsimp only at hSw);go_simp;first | done | with_reducible rfl)
      try simp only[Act.put,List.setIfInBounds_toArray,List.set_cons_zero,List.set_cons_succ]
      refine aaa (i:=15) (some 31) (v:= ?vc15) rfl rfl (by kernel_rfl) (by kernel_rfl) (by kernel_rfl) (fun _ _ _ h=>h) (Or.inl ⟨by kernel_rfl,?hyc15⟩) (by assumption) ?restc15
      case hyc15=>(intro w hSw;(try dsimp only at hSw);go_simp;first | done | with_reducible rfl)
      try simp only[Act.put,List.setIfInBounds_toArray,List.set_cons_zero,List.set_cons_succ]
      refine aaa (i:=16) (some 32) (v:= ?vc16) rfl rfl (by kernel_rfl) (by kernel_rfl) (by kernel_rfl) (fun _ _ _ h=>h) (Or.inl ⟨by kernel_rfl,?hyc16⟩) (by assumption) ?restc16
      case hyc16=>(intro w hSw;(try dsimp only at hSw);go_simp;first | done | with_reducible rfl)
      try simp only[Act.put,List.setIfInBounds_toArray,List.set_cons_zero,List.set_cons_succ]
      refine aaa (i:=17) (some 33) (v:=.int .i64 (k':Int)) rfl rfl (by kernel_rfl) (by kernel_rfl) (by kernel_rfl) (fun _ _ _ h=>h) (Or.inl ⟨by kernel_rfl,?hyc17⟩) (by assumption) ?restc17
      case hyc17=>(intro w hSw;(try dsimp only at hSw);go_simp;first | done | exact a5s (by omega) | (simp;omega))
      try simp only[Act.put,List.setIfInBounds_toArray,List.set_cons_zero,List.set_cons_succ]
      refine aaa (i:=18) (some 34) (v:= ?vc18) rfl rfl (by kernel_rfl) (by kernel_rfl) (by kernel_rfl) (fun _ _ _ h=>h) (Or.inl ⟨by kernel_rfl,?hyc18⟩) (by assumption) ?restc18
      case hyc18=>(intro w hSw;(try dsimp only at hSw);go_simp;first | done | with_reducible rfl)
      try simp only[Act.put,List.setIfInBounds_toArray,List.set_cons_zero,List.set_cons_succ]
      refine aaa (i:=19) (some 35) (v:= ?vc19) rfl rfl (by kernel_rfl) (by kernel_rfl) (by kernel_rfl) (fun _ _ _ h=>h) (Or.inl ⟨by kernel_rfl,?hyc19⟩) (by assumption) ?restc19
      case hyc19=>(intro w hSw;(try dsimp only at hSw);go_simp;first | done | with_reducible rfl)
      try simp only[Act.put,List.setIfInBounds_toArray,List.set_cons_zero,List.set_cons_succ]
      refine aaa (i:=20) (some 36) (v:= ?vc20) rfl rfl (by kernel_rfl) (by kernel_rfl) (by kernel_rfl) (fun _ _ _ h=>h) (Or.inl ⟨by kernel_rfl,?hyc20⟩) (by assumption) ?restc20
      case hyc20=>(intro w hSw;(try dsimp only at hSw);go_simp;first | done | with_reducible rfl)
      try simp only[Act.put,List.setIfInBounds_toArray,List.set_cons_zero,List.set_cons_succ]
      refine aaa (i:=21) (some 37) (v:=.bool le) rfl rfl (by kernel_rfl) (by kernel_rfl) (by kernel_rfl) (fun _ _ _ h=>h) (Or.inl ⟨by kernel_rfl,?hyc21⟩) (by assumption) ?restc21
      case hyc21=>(intro w hSw;(try dsimp only at hSw);go_simp;first | done | exact gle | (rw[gle]))
      try simp only[Act.put,List.setIfInBounds_toArray,List.set_cons_zero,List.set_cons_succ]
      refine aaa (i:=22) (some 38) (v:= ?vc22) rfl rfl (by kernel_rfl) (by kernel_rfl) (by kernel_rfl) (fun _ _ _ h=>h) (Or.inl ⟨by kernel_rfl,?hyc22⟩) (by assumption) ?restc22
      case hyc22=>(intro w hSw;(try dsimp only at hSw);go_simp;first | done | with_reducible rfl)
      try simp only[Act.put,List.setIfInBounds_toArray,List.set_cons_zero,List.set_cons_succ]
      refine aaa (i:=23) (some 39) (v:= ?vc23) rfl rfl (by kernel_rfl) (by kernel_rfl) (by kernel_rfl) (fun _ _ _ h=>h) (Or.inl ⟨by kernel_rfl,?hyc23⟩) (by assumption) ?restc23
      case hyc23=>(intro w hSw;(try dsimp only at hSw);go_simp;first | done | with_reducible rfl)
      try simp only[Act.put,List.setIfInBounds_toArray,List.set_cons_zero,List.set_cons_succ]
      refine wpAnyH_done (by kernel_rfl) ?_ _
      cases le with
      | true=>
       have hle:pt≤pq:=by have:=HLE.out;simpa using this.symm
       have HPR:Hid (PR=.error 1):=by
        show _=_
        have:=HK1.out
        rw[if_pos hle] at this
        rw[HR.out,←this];rfl
       go_wp2_with fail
       refine bodyPost_ret (abr rfl rfl) rfl ?_
       exact⟨by rw[HPR.out];rfl,ai5 hbel hHeld4.2⟩
      | false=>
       have hle: ¬pt≤pq:=by have:=HLE.out;simpa using this.symm
       have HK2:Hid (acd (l.drop (k'+1+1)) pt=C):=by
        have:=HK1.out
        rw[if_neg hle] at this
        exact this
       go_wp2_with fail
       go_roundw
       case rel=>exact⟨k'+1+1,pt,by omega,by go_num,HK2,.inr ⟨k'+1,hlt,rfl,by rw[HMM.out]⟩,ai5 hbel hHeld4.2⟩
       case measure=>simp only[intOf];omega
   ·have hCt:C=true:=by rw[←HK.out,List.drop_of_length_le (by omega)];rfl
    have hmay:=ajr l (-1) (by rw[HC.out];exact hCt)
    have hPR0:PR=a7h (abd l true []):=by rw[HR.out,hCt];rfl
    obtain⟨R,hRR⟩: ∃R,abd l true []=R:=⟨_,rfl⟩
    rw[hRR] at hPR0
    have HWR:Hid (abd l true []=R):=hRR
    have HPR:Hid (PR=a7h R):=hPR0
    clear hPR0
    clear HK HC HR HAB hRR hCt
    have hbel0:=hbel
    go_wp2_with fail
    clear hlt hk
    go_loopw [5,6] (fun v i wr=> ∃(k:Nat) (acc:List UInt8),k≤l.length∧i=.int .i64 k∧BOwn 5 wr w.heap.size v acc∧acc.length≤65536∧Hid (abd (l.drop k) (decide (k=0)) acc=R)∧Below w.heap.size w wr∧w.heap.size≤wr.heap.size) (fun _ i _=>l.length-(intOf i).toNat)
    case atStart=>exact⟨0,[],by omega,rfl,BOwn.nil _ _ _,by simp,by simpa using HWR,hbel0,hbel0.size⟩
    case round=>
     clear HWR
     obtain⟨k,acc,hk,rfl,hown,hal,HK,hbel,hsz⟩:=hrel
     by_cases hlt:k<l.length
     ·have hd:l.drop k=l[k]::l.drop (k+1):=List.drop_eq_getElem_cons hlt
      obtain⟨b,off,hao,pa,pk,pc,c0,c1,c2,hpi⟩:=hin.at hlt
      subst hao
      have hm:=hmay _ (List.getElem_mem hlt)
      have hpk:=hpl _ (List.getElem_mem hlt)
      have hKK:=HK.out
      rw[hd,af5] at hKK
      generalize l[k]=mm at c0 c1 c2 hpi hm hKK hpk
      obtain⟨u,c,us,rfl,hu,hc,hus,hmp⟩:=afy hm
      simp only[List.length_map] at c0 c1 hpi hKK hpk
      rw[hmp] at hKK
      obtain⟨a',c',he⟩:=hpi.val
      simp only[Value.slice.injEq,List.length_map] at he
      have HPK:Hid (pk=us.length):=he.2.1
      have hpk':pk≤1048576:=by rw[he.2.1];exact hpk
      have hbw:b<w.heap.size:=World.block_lt_of_cell? w _ c0
      have HCELL:Hid (∀x:World,Below w.heap.size w x→x.cell? ⟨b,off+k*3,none⟩=some (.int .i64 (u:Int))∧x.cell? ⟨b,off+k*3+1,none⟩=some (.int .i64 (c:Int))∧x.cell? ⟨b,off+k*3+2,none⟩=some (.slice pa pk pc)∧Ints n₀ x (.slice pa pk pc) (us.map fun q:Nat=>(q:Int))):=fun x hx=>⟨(hx.cell hbw).trans c0,(hx.cell hbw).trans c1,(hx.cell hbw).trans c2,hpi.below hx hn₀⟩
      have HKK:Hid ((if 65536<us.length then none
       else if 65536<((if decide (k=0)=true then acc else acc++[10])++aci u c us).length then none
       else abd (l.drop (k+1)) false ((if decide (k=0)=true then acc else acc++[10])++aci u c us))=R):=hKK
      clear he hKK HK hd hm hmp c0 c1 c2 hpi hpk
      by_cases hlong:65537<5*pk
      ·have HRn:Hid (R=none):=by
        show _=_
        have h5:65537<5*us.length:=by rw[←HPK.out];exact hlong
        rw[←HKK.out]
        by_cases h6:65536<us.length
        ·rw[if_pos h6]
        ·rw[if_neg h6,if_pos (a14 u c us h5 _)]
       clear HKK
       by_cases hk0:0<k
       ·have hl9:acc.length≤1099511627776:=by omega
        go_wp2_with (first | (at_builtin;refine aao rfl _ _ rfl w.heap.size _ acc rfl hown 10 _ rfl _ rfl hl9 hsz wr (Below.refl _ _) (KO.refl _) ?_;intro v2 w2 hown2 hb2 hsz2 hko2;obtain⟨g0,g1,g2,hpi2⟩:=HCELL.out w2 (hbel.trans hb2)))
        refine bodyPost_ret (abr rfl rfl) rfl ?_
        exact⟨by rw[HPR.out,HRn.out];rfl,hbel.trans hb2⟩
       ·obtain⟨g0,g1,g2,hpi2⟩:=HCELL.out wr hbel
        have hk00:decide ((0:Int)<(k:Int))=false:=by simp;omega
        go_wp2_with fail
        refine bodyPost_ret (abr rfl rfl) rfl ?_
        exact⟨by rw[HPR.out,HRn.out];rfl,hbel⟩
      ·have hul:us.length≤65536:=by rw[←HPK.out];omega
       have HK2:Hid ((if 65536<((if decide (k=0)=true then acc else acc++[10])++aci u c us).length then none
        else abd (l.drop (k+1)) false ((if decide (k=0)=true then acc else acc++[10])++aci u c us))=R):=by
        have h:=HKK.out
        rw[if_neg (show ¬65536<us.length by omega)] at h
        exact h
       clear HKK
       by_cases hk0:0<k
       ·have hl9:acc.length≤1099511627776:=by omega
        have hdk:decide (k=0)=false:=by simp;omega
        rw[hdk] at HK2
        simp only[Bool.false_eq_true,if_false] at HK2
        go_wp2_with (first | (at_builtin;refine aao rfl _ _ rfl w.heap.size _ acc rfl hown 10 _ rfl _ rfl hl9 hsz wr (Below.refl _ _) (KO.refl _) ?_;intro v2 w2 hown2 hb2 hsz2 hko2;obtain⟨g0,g1,g2,hpi2⟩:=HCELL.out w2 (hbel.trans hb2)))
        refine(ak2 n₀ u c us hu hc hus hul pa pk pc w2 (Nat.le_trans hn₀ hsz2) hpi2).mono ?_
        rintro e w3 ⟨rfl,hb3⟩
        have hown3:=aer hown2 hb3
        have hb3':=hb3.mono hsz2
        have hsz3:w.heap.size≤w3.heap.size:=Nat.le_trans hsz2 hb3.size
        have hl4:(aci u c us).length≤500000:=by
         have h1:=alk us hus
         have h2:=aeo u hu
         have h3:=akj c hc
         simp[aci]
         omega
        generalize aci u c us=ms at HK2 hl4⊢
        have hl2:(acc++[10]).length≤65537:=by simp;omega
        generalize acc++[10]=acc2 at HK2 hown2 hown3 hl2⊢
        have hl3:acc2.length+ms.length≤1099511627776:=by omega
        have HAP:Hid ((acc2++ms).length=acc2.length+ms.length):=List.length_append
        have hbel4: ∀x,Below w.heap.size w3 x→Below w.heap.size w x:=fun x hx=>((hbel.trans hb2).trans hb3').trans hx
        by_cases hL:65536<acc2.length+ms.length
        ·have HRn:Hid (R=none):=by show _=_;rw[←HK2.out,if_pos (by rw[HAP.out];exact hL)]
         go_wp2_with (first | (at_builtin;refine aaz rfl _ _ rfl w.heap.size _ acc2 rfl hown3 ms rfl hl3 hsz3 ?_;intro v4 w4 hown4 hb4 hsz4 hko4;obtain⟨a4,c4,rfl⟩:=aa7 hown4;rw[HAP.out] at hown4⊢))
         refine bodyPost_ret (abr rfl rfl) rfl ?_
         exact⟨by rw[HPR.out,HRn.out];rfl,hbel4 _ hb4⟩
        ·have HK3:Hid (abd (l.drop (k+1)) false (acc2++ms)=R):=by
          have h:=HK2.out
          rw[if_neg (by rw[HAP.out];exact hL)] at h
          exact h
         go_wp2_with (first | (at_builtin;refine aaz rfl _ _ rfl w.heap.size _ acc2 rfl hown3 ms rfl hl3 hsz3 ?_;intro v4 w4 hown4 hb4 hsz4 hko4;obtain⟨a4,c4,rfl⟩:=aa7 hown4;rw[HAP.out] at hown4⊢))
         go_roundw
         case rel=>exact⟨k+1,acc2++ms,by omega,by simp,hown4,by rw[HAP.out];omega,by simpa using HK3,hbel4 _ hb4,hsz4⟩
         case measure=>simp only[intOf];omega
       ·obtain⟨g0,g1,g2,hpi2⟩:=HCELL.out wr hbel
        have hdk:decide (k=0)=true:=by simp;omega
        rw[hdk] at HK2
        simp only[if_true] at HK2
        have hk00:decide ((0:Int)<(k:Int))=false:=by simp;omega
        go_wp2_with fail
        refine(ak2 n₀ u c us hu hc hus hul pa pk pc wr (Nat.le_trans hn₀ hsz) hpi2).mono ?_
        rintro e w3 ⟨rfl,hb3⟩
        have hown3:=aer hown hb3
        have hb3':=hb3.mono hsz
        have hsz3:w.heap.size≤w3.heap.size:=Nat.le_trans hsz hb3.size
        have hl4:(aci u c us).length≤500000:=by
         have h1:=alk us hus
         have h2:=aeo u hu
         have h3:=akj c hc
         simp[aci]
         omega
        generalize aci u c us=ms at HK2 hl4⊢
        have hl2:acc.length≤65537:=by omega
        have hl3:acc.length+ms.length≤1099511627776:=by omega
        have HAP:Hid ((acc++ms).length=acc.length+ms.length):=List.length_append
        have hbel4: ∀x,Below w.heap.size w3 x→Below w.heap.size w x:=fun x hx=>(hbel.trans hb3').trans hx
        by_cases hL:65536<acc.length+ms.length
        ·have HRn:Hid (R=none):=by show _=_;rw[←HK2.out,if_pos (by rw[HAP.out];exact hL)]
         go_wp2_with (first | (at_builtin;refine aaz rfl _ _ rfl w.heap.size _ acc rfl hown3 ms rfl hl3 hsz3 ?_;intro v4 w4 hown4 hb4 hsz4 hko4;obtain⟨a4,c4,rfl⟩:=aa7 hown4;rw[HAP.out] at hown4⊢))
         refine bodyPost_ret (abr rfl rfl) rfl ?_
         exact⟨by rw[HPR.out,HRn.out];rfl,hbel4 _ hb4⟩
        ·have HK3:Hid (abd (l.drop (k+1)) false (acc++ms)=R):=by
          have h:=HK2.out
          rw[if_neg (by rw[HAP.out];exact hL)] at h
          exact h
         go_wp2_with (first | (at_builtin;refine aaz rfl _ _ rfl w.heap.size _ acc rfl hown3 ms rfl hl3 hsz3 ?_;intro v4 w4 hown4 hb4 hsz4 hko4;obtain⟨a4,c4,rfl⟩:=aa7 hown4;rw[HAP.out] at hown4⊢))
         go_roundw
         case rel=>exact⟨k+1,acc++ms,by omega,by simp,hown4,by rw[HAP.out];omega,by simpa using HK3,hbel4 _ hb4,hsz4⟩
         case measure=>simp only[intOf];omega
     ·have HRs:Hid (R=some acc):=by show _=_;rw[←HK.out,List.drop_of_length_le (by omega)];rfl
      have hcv:=acp (P:=Tryz.prog) wr 78 9 5 Tryz.underlying78 Tryz.underlying5 Tryz.underlying9 w.heap.size _ acc hown
      obtain⟨a3,c3,rfl⟩:=aa7 hown
      clear HK
      go_wp2_with fail
      refine bodyPost_ret (abr rfl rfl) rfl ?_
      exact⟨by rw[HPR.out,HRs.out];rfl,hbel⟩
end Go.Proofs.YtpfkoldfbecdlaaGreatDoor
