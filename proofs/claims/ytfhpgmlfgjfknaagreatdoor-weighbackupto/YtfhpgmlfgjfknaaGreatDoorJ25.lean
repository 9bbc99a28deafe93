/- Contracts and lemmas (nothing is claimed here). -/
import Derived.Test.YtfhpgmlfgjfknaaGreatDoorSortC
import Derived.Deep.Cut
namespace Go.Proofs.YtfhpgmlfgjfknaaGreatDoor
open Go.Shelf Go.RowKit Go.Lib Go.Sort Go.Vf
def amh (key:Int→Int)(w0:World)(blk off n g:Nat)(cb:Array Value)(N:Nat):Prop:= ∀(P A B Q D:List Int) (cap a m b:Nat) (w:World),b-a≤N→SL w0 blk off n D w→D=P++A++B++Q→P.length=a→a+A.length=m→m+B.length=b→a<m→m<b→SortedK key A→SortedK key B→
 Calls Tryz.prog 118 #[.slice (some ⟨blk,off,none⟩) n cap,.int .i64 a,.int .i64 m,.int .i64 b,.func (.func g) #[] cb] w fun e w'=>aco key w0 blk off n P (A++B) Q e w'
structure SymAt (key:Int→Int)(P A B Q D:List Int)(a m b mid s en:Nat)(A1 A2 B1 B2:List Int):Prop where
 hD:D=P++A++B++Q
 hP:P.length=a
 hA:A=A1++A2
 hB:B=B1++B2
 lA:a+A1.length=s
 lm:a+A.length=m
 lB:m+B1.length=en
 lb:m+B.length=b
 en':en+s=mid+m
 sA:SortedK key A
 sB:SortedK key B
 lo: ∀u∈A2,∀v∈B1,key v<key u
 hi: ∀u∈A1,∀v∈B2,key u≤key v
theorem SymAt.rot {key:Int→Int}{P A B Q D:List Int}{a m b mid s en:Nat}{A1 A2 B1 B2:List Int}(h:SymAt key P A B Q D a m b mid s en A1 A2 B1 B2):RotAt (P++(A1++B1)++(A2++B2++Q)) (P++A1) A2 B1 (B2++Q) D:=
 ⟨by rw[h.hD,h.hA,h.hB];simp,by simp⟩
theorem SymAt.stay {key:Int→Int}{P A B Q D:List Int}{a m b mid s en:Nat}{A1 A2 B1 B2:List Int}(h:SymAt key P A B Q D a m b mid s en A1 A2 B1 B2)(hs:s≤m)(he:m≤en)(hn: ¬(s<m∧m<en)):D=P++(A1++B1)++(A2++B2++Q):=by
 have l1:=h.lA;have l2:=h.lm;have l3:=h.lB
 have l4:A.length=A1.length+A2.length:=by rw[h.hA,List.length_append]
 rcases Nat.lt_or_ge s m with c | c
 ·have e:B1=[]:=List.length_eq_zero_iff.1 (by omega)
  rw[h.hD,h.hA,h.hB,e];simp
 ·have e:A2=[]:=List.length_eq_zero_iff.1 (by omega)
  rw[h.hD,h.hA,h.hB,e];simp
theorem SymAt.left {key:Int→Int}{P A B Q D:List Int}{a m b mid s en:Nat}{A1 A2 B1 B2:List Int}(h:SymAt key P A B Q D a m b mid s en A1 A2 B1 B2)(hs:a≤s)(he:m≤en)(hn: ¬(a<s∧s<mid)):SortedK key (A1++B1):=by
 have l1:=h.lA;have l3:=h.lB;have l4:=h.en'
 have sA:=h.sA;have sB:=h.sB
 rw[h.hA] at sA;rw[h.hB] at sB
 rcases Nat.lt_or_ge a s with c | c
 ·have e:B1=[]:=List.length_eq_zero_iff.1 (by omega)
  rw[e,List.append_nil];exact sA.left
 ·have e:A1=[]:=List.length_eq_zero_iff.1 (by omega)
  rw[e,List.nil_append];exact sB.left
theorem SymAt.right {key:Int→Int}{P A B Q D:List Int}{a m b mid s en:Nat}{A1 A2 B1 B2:List Int}(h:SymAt key P A B Q D a m b mid s en A1 A2 B1 B2)(hs:s≤m)(he:en≤b)(hn: ¬(mid<en∧en<b)):SortedK key (A2++B2):=by
 have l1:=h.lA;have l2:=h.lm;have l3:=h.lB;have l4:=h.en';have l5:=h.lb
 have e1:A.length=A1.length+A2.length:=by rw[h.hA,List.length_append]
 have e2:B.length=B1.length+B2.length:=by rw[h.hB,List.length_append]
 have sA:=h.sA;have sB:=h.sB
 rw[h.hA] at sA;rw[h.hB] at sB
 rcases Nat.lt_or_ge mid en with c | c
 ·have e:B2=[]:=List.length_eq_zero_iff.1 (by omega)
  rw[e,List.append_nil];exact sA.right
 ·have e:A2=[]:=List.length_eq_zero_iff.1 (by omega)
  rw[e,List.nil_append];exact sB.right
theorem SymAt.lens {key:Int→Int}{P A B Q D:List Int}{a m b mid s en:Nat}{A1 A2 B1 B2:List Int}(h:SymAt key P A B Q D a m b mid s en A1 A2 B1 B2):s+A2.length=m∧s+B1.length=mid∧mid+A2.length=en∧en+B2.length=b:=by
 have l1:=h.lA;have l2:=h.lm;have l3:=h.lB;have l4:=h.en';have l5:=h.lb
 have e1:A.length=A1.length+A2.length:=by rw[h.hA,List.length_append]
 have e2:B.length=B1.length+B2.length:=by rw[h.hB,List.length_append]
 omega
def akw (key:Int→Int)(w0:World)(blk off n:Nat)(P X Q:List Int)(w':World):Prop:= ∃C,SL w0 blk off n (P++C++Q) w'∧SortedK key C∧AlikeK key X C∧C.length=X.length
set_option maxHeartbeats 16000000 in
set_option maxRecDepth 100000 in
theorem aot {w0:World}{blk off n:Nat}(R:RowN w0 blk off n)(hn:n<2305843009213693952){g:Nat}{cb:Array Value}{key:Int→Int}(eg: ∀args w,(callFunc g args).run Tryz.prog w=.ok (.enter g args) w)(hC:apz g cb key w0 blk off n)(N:Nat)(ih:amh key w0 blk off n g cb N):
  amh key w0 blk off n g cb (N+1):=by
 intro P A B Q D cap a m b w hN S hD hP hA hB ham hmb sA sB
 by_cases c1:m-a=1
 ·obtain⟨x,rfl⟩: ∃x,A=[x]:=List.length_eq_one_iff.1 (by omega)
  exact awf R (by omega) eg hC cap a m b w S hD hP (by omega) hB sB
 by_cases c2:b-m=1
 ·obtain⟨x,rfl⟩: ∃x,B=[x]:=List.length_eq_one_iff.1 (by omega)
  exact asm R (by omega) eg hC cap a m b w S hD hP hA (by omega) (by omega) sA
 have hle:b≤n:=by rw[←S.len,hD];simp only[List.length_append];omega
 obtain⟨mid,hmid⟩: ∃mid,mid=(a+b)/2:=⟨_,rfl⟩
 have zmid:((a:Int)+(b:Int))/2=(mid:Int):=by omega
 have hm1:a<mid:=by omega
 have hm2:mid<b:=by omega
 have S0:Aside (SL w0 blk off n D w):=S
 have IH:Aside (amh key w0 blk off n g cb N):=ih
 have HC:Aside _:=hC
 have c1z: ¬(m:Int)-(a:Int)=1:=by omega
 have c1q:((m:Int)-(a:Int)==1)=false:=by simpa using c1z
 have c2z: ¬(b:Int)-(m:Int)=1:=by omega
 have c2q:((b:Int)-(m:Int)==1)=false:=by simpa using c2z
 obtain⟨q,hq⟩: ∃q,q+1=mid+m:=⟨mid+m-1,by omega⟩
 have zq:(mid:Int)+(m:Int)-1=(q:Int):=by omega
 obtain⟨lo,hlo⟩: ∃lo,lo=if mid<m then mid+m-b else a:=⟨_,rfl⟩
 obtain⟨hi,hhi⟩: ∃hi,hi=if mid<m then mid else m:=⟨_,rfl⟩
 have HS:Hid (∀s,lo≤s→s≤hi→(s<hi→key (D.getD (q-s) 0)<key (D.getD s 0))→(lo<s→key (D.getD (s-1) 0)≤key (D.getD (q+1-s) 0))→ ∃A1 A2 B1 B2 en,SymAt key P A B Q D a m b mid s en A1 A2 B1 B2∧a≤s∧s≤m∧m≤en∧en≤b):=by
  intro s h1 h2 g1 g2
  obtain⟨A1,A2,B1,B2,e1,e2,e3,e4,e5,e6,e7,e8,e9,e10⟩:=a29 (Q:=Q) sA sB hP hA hB hmid hlo hhi h1 h2 (fun h=>by rw[←hD,show mid+m-1-s=q-s from by omega];exact g1 h) (fun h=>by rw[←hD,show mid+m-s=q+1-s from by omega];exact g2 h)
  exact⟨A1,A2,B1,B2,mid+m-s,⟨hD,hP,e1,e2,e3,hA,e4,hB,by omega,sA,sB,e9,e10⟩,e5,e6,e7,e8⟩
 have hl1:a≤lo:=by split at hlo<;>omega
 have hl2:lo≤hi:=by split at hlo<;>split at hhi<;>omega
 have hl3:hi≤m:=by split at hhi<;>omega
 have hl4:hi≤mid:=by split at hhi<;>omega
 have hl5:q+1≤lo+b:=by split at hlo<;>omega
 clear S hD hP hA hB sA sB hC ih
 have hcase:(mid<m∧(mid:Int)+(m:Int)-(b:Int)=(lo:Int)∧hi=mid)∨(¬mid<m∧lo=a∧hi=m):=by
  by_cases h:mid<m
  ·rw[if_pos h] at hlo hhi
   exact .inl ⟨h,by omega,hhi⟩
  ·rw[if_neg h] at hlo hhi
   exact .inr ⟨h,hlo,hhi⟩
 clear hlo hhi hmid
 go_enter Tryz.func118,Tryz.ntmps118
 rcases hcase with ⟨hmm,zlo,zhi⟩ | ⟨hmm,zlo,zhi⟩
 ·have hmmz:(mid:Int)<(m:Int):=by omega
  have zhi':Hid (hi=mid):=zhi
  clear zhi
  go_wp2
  go_loopg [20,21] (hi-lo) (fun g1 vi vj wr=> ∃(s r:Nat),vi=.int .i64 s∧vj=.int .i64 r∧lo≤s∧s≤r∧r≤hi∧r-s≤g1∧Aside (SL w0 blk off n D wr)∧Hid ((r<hi→key (D.getD (q-r) 0)<key (D.getD r 0))∧(lo<s→key (D.getD (s-1) 0)≤key (D.getD (q+1-s) 0))))
  case atStart=>exact⟨lo,hi,rfl,by rw[zhi'.out],Nat.le_refl _,hl2,Nat.le_refl _,Nat.le_refl _,S0,fun h=>absurd h (by omega),fun h=>absurd h (by omega)⟩
  case round=>
   clear S0
   obtain⟨s,r,rfl,rfl,hls,hsr,hrh,hg1,S1,H1⟩:=hrel
   by_cases hlt:s<r
   ·have hltz:(s:Int)<(r:Int):=by omega
    obtain⟨c,hc0⟩: ∃h,h=(s+r)/2:=⟨_,rfl⟩
    have hz:((s:Int)+(r:Int))/2=(c:Int):=by omega
    have hc1:s≤c:=by omega
    have hc2:c<r:=by omega
    obtain⟨t,ht⟩: ∃t,t+c=q:=⟨q-c,by omega⟩
    have zt:(q:Int)-(c:Int)=(t:Int):=by omega
    have zw:IntKind.i64.wrap ((q:Int)-(c:Int))=(t:Int):=by rw[IntKind.wrap_i64];omega
    obtain⟨x,hx⟩: ∃y,y=D.getD t 0:=⟨_,rfl⟩
    obtain⟨y,hy⟩: ∃y,y=D.getD c 0:=⟨_,rfl⟩
    have la:=S1.out.cl R t (by omega)
    have lb:=S1.out.cl R c (by omega)
    rw[←hx] at la
    rw[←hy] at lb
    have ba:(t:Int)<(n:Int):=by omega
    have bc:(c:Int)<(n:Int):=by omega
    have hc:=S1.out.cmp HC.out (x:=x) (y:=y) (by rw[hx];exact S1.out.at t (by omega)) (by rw[hy];exact S1.out.at c (by omega))
    have HY:Hid (x=D.getD (q-c) 0∧y=D.getD c 0):=⟨by rw[hx,show q-c=t from by omega],hy⟩
    have HT:Hid (t+c=q):=ht
    clear hc0 hx hy ht
    by_cases hk:key x<key y
    ·have hv:ahu key x y<0:=cmpK_lt.2 hk
     have hd:decide (ahu key x y<0)=true:=decide_eq_true hv
     have H2:Hid ((c<hi→key (D.getD (q-c) 0)<key (D.getD c 0))∧(lo<s→key (D.getD (s-1) 0)≤key (D.getD (q+1-s) 0))):=⟨fun _=>by rw[←HY.out.1,←HY.out.2];exact hk,H1.out.2⟩
     clear H1 hk
     go_wp2_with fail
     go_quiet (first | (go_at_fn g;refine Calls.quiet_of (hc _)))
     have S2:Aside (SL w0 blk off n D (wr.drewN nq)):=S1.out.drewN nq
     clear la lb hc S1
     generalize wr.drewN nq=w2 at S2⊢
     clear nq
     go_wp2
     go_roundg (c-s)
     case measure=>omega
     case rel=>exact⟨s,c,rfl,rfl,by omega,by omega,by omega,Nat.le_refl _,S2,H2⟩
    ·have hv: ¬ahu key x y<0:=fun h=>hk (cmpK_lt.1 h)
     have hd:decide (ahu key x y<0)=false:=decide_eq_false hv
     have H2:Hid ((r<hi→key (D.getD (q-r) 0)<key (D.getD r 0))∧(lo<c+1→key (D.getD (c+1-1) 0)≤key (D.getD (q+1-(c+1)) 0))):=⟨H1.out.1,fun _=>by rw[Nat.add_sub_cancel,show q+1-(c+1)=q-c from by omega,←HY.out.1,←HY.out.2];omega⟩
     clear H1 hk
     go_wp2_with fail
     go_quiet (first | (go_at_fn g;refine Calls.quiet_of (hc _)))
     have S2:Aside (SL w0 blk off n D (wr.drewN nq)):=S1.out.drewN nq
     clear la lb hc S1
     generalize wr.drewN nq=w2 at S2⊢
     clear nq
     go_wp2
     go_roundg (r-(c+1))
     case measure=>omega
     case rel=>exact⟨c+1,r,by first | rfl | go_num,rfl,by omega,by omega,by omega,Nat.le_refl _,S2,H2⟩
   ·have hltz: ¬(s:Int)<(r:Int):=by omega
    obtain rfl:s=r:=by omega
    obtain⟨A1,A2,B1,B2,en,HQ0,e1,e2,e3,e4⟩:=HS.out s hls hrh H1.out.1 H1.out.2
    have HQ:Aside (SymAt key P A B Q D a m b mid s en A1 A2 B1 B2):=HQ0
    have zen:(mid:Int)+(m:Int)-(s:Int)=(en:Int):=by have:=HQ0.en';omega
    have hsm:s≤mid:=by omega
    have hrot:s<m∧m<en→Calls Tryz.prog 154 #[.slice (some ⟨blk,off,none⟩) n cap,.int .i64 s,.int .i64 m,.int .i64 en,.func (.func g) #[] cb] wr fun e w'=>e=.returned (.tuple #[])∧SL w0 blk off n (P++(A1++B1)++(A2++B2++Q)) w':=fun h=>
     anh R (by omega) (.func (.func g) #[] cb) cap s m en wr S1.out HQ0.rot (by rw[List.length_append,HQ0.hP];exact HQ0.lA) (HQ0.lens).1 HQ0.lB h.1 h.2
    have hstay: ¬(s<m∧m<en)→SL w0 blk off n (P++(A1++B1)++(A2++B2++Q)) wr:=fun h=>S1.out.to (HQ0.stay e2 e3 h)
    have HROT:Aside _:=hrot
    have HSTAY:Aside _:=hstay
    clear H1 HQ0 HS S1 hrot hstay hl1 hl2 hl3 hl4 hl5 hls hrh hg1 hltz
    go_upto_region 39 with fail
    go_cut [185] from 178 to 185 (fun c wx=>c=.bool (decide (s<m∧m<en))∧wx=wr)
    case first=>
     by_cases d1:s<m
     ·have d1z:(s:Int)<(m:Int):=by omega
      by_cases d2:m<en
      ·have d2z:(m:Int)<(en:Int):=by omega
       go_wp2_with fail
       go_meet
       case rel=>exact⟨by simp[d1,d2],rfl⟩
      ·have d2z: ¬(m:Int)<(en:Int):=by omega
       go_wp2_with fail
       go_meet
       case rel=>exact⟨by simp[d2],rfl⟩
     ·have d1z: ¬(s:Int)<(m:Int):=by omega
      go_wp2_with fail
      go_meet
      case rel=>exact⟨by simp[d1],rfl⟩
    case rest=>
     obtain⟨rfl,rfl⟩:=hcut
     go_upto_if 185 with fail
     go_cut [191] from 185 to 191 (fun _ wx=>Aside (SL w0 blk off n (P++(A1++B1)++(A2++B2++Q)) wx))
     case first=>
      by_cases d:s<m∧m<en
      ·have dz:decide (s<m∧m<en)=true:=decide_eq_true d
       have hrot:=HROT.out d
       go_wp2_with fail
       refine hrot.mono ?_
       rintro e w2 ⟨rfl,S2⟩
       go_wp2_with fail
       go_meet
       case rel=>exact S2
      ·have dz:decide (s<m∧m<en)=false:=decide_eq_false d
       go_wp2_with fail
       go_meet
       case rel=>exact HSTAY.out d
     case rest=>
      clear HROT HSTAY
      have hl:a<s∧s<mid→Calls Tryz.prog 118 #[.slice (some ⟨blk,off,none⟩) n cap,.int .i64 a,.int .i64 s,.int .i64 mid,.func (.func g) #[] cb] wc fun e w'=>aco key w0 blk off n P (A1++B1) (A2++B2++Q) e w':=fun h=>by
       have q:=HQ.out
       refine IH.out P A1 B1 (A2++B2++Q) _ cap a s mid wc (by omega) hcut.out (by simp) q.hP q.lA q.lens.2.1 h.1 h.2 ?_ ?_
       ·have:=q.sA;rw[q.hA] at this;exact this.left
       ·have:=q.sB;rw[q.hB] at this;exact this.left
      have hl': ¬(a<s∧s<mid)→akw key w0 blk off n P (A1++B1) (A2++B2++Q) wc:=fun h=>⟨A1++B1,hcut.out,HQ.out.left e1 e3 h,AlikeK.refl _,rfl⟩
      have hl2: ∀C w',SL w0 blk off n (P++C++(A2++B2++Q)) w'→C.length=(A1++B1).length:=fun C w' h=>by
       have h1:=h.len
       have h2:=hcut.out.len
       simp only[List.length_append] at h1 h2⊢
       omega
      have HL:Aside _:=hl
      have HL':Aside _:=hl'
      have HL2:Aside _:=hl2
      clear hl hl' hl2 hcut
      generalize wc=wd at HL HL'⊢
      go_upto_region 41 with fail
      go_cut [199] from 192 to 199 (fun c wx=>c=.bool (decide (a<s∧s<mid))∧wx=wd)
      case first=>
       by_cases d1:a<s
       ·have d1z:(a:Int)<(s:Int):=by omega
        by_cases d2:s<mid
        ·have d2z:(s:Int)<(mid:Int):=by omega
         go_wp2_with fail
         go_meet
         case rel=>exact⟨by simp[d1,d2],rfl⟩
        ·have d2z: ¬(s:Int)<(mid:Int):=by omega
         go_wp2_with fail
         go_meet
         case rel=>exact⟨by simp[d2],rfl⟩
       ·have d1z: ¬(a:Int)<(s:Int):=by omega
        go_wp2_with fail
        go_meet
        case rel=>exact⟨by simp[d1],rfl⟩
      case rest=>
       obtain⟨rfl,rfl⟩:=hcut
       go_upto_if 199 with fail
       go_cut [205] from 199 to 205 (fun _ wx=>Aside (akw key w0 blk off n P (A1++B1) (A2++B2++Q) wx))
       case first=>
        by_cases d:a<s∧s<mid
        ·have dz:decide (a<s∧s<mid)=true:=decide_eq_true d
         have hrot:=HL.out d
         go_wp2_with fail
         refine hrot.mono ?_
         rintro e w2 ⟨rfl,C,S2,g1,g2⟩
         have hcl:=HL2.out C w2 S2
         go_wp2_with fail
         go_meet
         case rel=>exact⟨C,S2,g1,g2,hcl⟩
        ·have dz:decide (a<s∧s<mid)=false:=decide_eq_false d
         go_wp2_with fail
         go_meet
         case rel=>exact HL'.out d
       case rest=>
        clear HL HL' HL2
        obtain⟨C1,SC,sC,aC,lC⟩:=hcut.out
        have hlen:(P++C1).length=mid:=by
         have q:=HQ.out
         have:=q.lens
         have:=q.hP
         have:=q.lA
         rw[List.length_append] at lC⊢
         omega
        have hr:mid<en∧en<b→Calls Tryz.prog 118 #[.slice (some ⟨blk,off,none⟩) n cap,.int .i64 mid,.int .i64 en,.int .i64 b,.func (.func g) #[] cb] wc fun e w'=>aco key w0 blk off n (P++C1) (A2++B2) Q e w':=fun h=>by
         have q:=HQ.out
         refine IH.out (P++C1) A2 B2 Q _ cap mid en b wc (by omega) SC (by simp) hlen q.lens.2.2.1 q.lens.2.2.2 h.1 h.2 ?_ ?_
         ·have:=q.sA;rw[q.hA] at this;exact this.right
         ·have:=q.sB;rw[q.hB] at this;exact this.right
        have hfin: ∀C2 w',SL w0 blk off n ((P++C1)++C2++Q) w'→SortedK key C2→AlikeK key (A2++B2) C2→aco key w0 blk off n P (A++B) Q (.returned (.tuple #[])) w':=fun C2 w' h g1 g2=>by
         have q:=HQ.out
         have m2:=aqw (A1:=A1) (A2:=A2) (B1:=B1) (B2:=B2) (C1:=C1) (C2:=C2) (by rw[←q.hA];exact q.sA) (by rw[←q.hB];exact q.sB) q.lo q.hi sC aC g1 g2
         rw[←q.hA,←q.hB] at m2
         exact⟨rfl,C1++C2,h.to (by simp),m2.1,m2.2⟩
        have hr': ¬(mid<en∧en<b)→aco key w0 blk off n P (A++B) Q (.returned (.tuple #[])) wc:=fun h=>hfin (A2++B2) wc (SC.to (by simp)) (HQ.out.right e2 e4 h) (AlikeK.refl _)
        have HR:Aside _:=hr
        have HR':Aside _:=hr'
        have HF:Aside _:=hfin
        clear hr hr' hfin hlen lC aC sC SC hcut HQ
        generalize wc=wd at HR HR'⊢
        by_cases d1:mid<en
        ·have d1z:(mid:Int)<(en:Int):=by omega
         by_cases d2:en<b
         ·have d2z:(en:Int)<(b:Int):=by omega
          have hrot:=HR.out ⟨d1,d2⟩
          go_wp2_with fail
          refine hrot.mono ?_
          rintro e w2 ⟨rfl,C,S2,g1,g2⟩
          have hfin:=HF.out C w2 S2 g1 g2
          go_wp2
          go_end0
          exact hfin
         ·have d2z: ¬(en:Int)<(b:Int):=by omega
          have hfin:=HR'.out (fun h=>d2 h.2)
          go_wp2
          go_end0
          exact hfin
        ·have d1z: ¬(mid:Int)<(en:Int):=by omega
         have hfin:=HR'.out (fun h=>d1 h.1)
         go_wp2
         go_end0
         exact hfin
 ·have hmmz: ¬(mid:Int)<(m:Int):=by omega
  have zhi':Hid (hi=m):=zhi
  have zlo':Hid (lo=a):=zlo
  clear zhi zlo
  go_wp2
  go_loopg [20,21] (hi-lo) (fun g1 vi vj wr=> ∃(s r:Nat),vi=.int .i64 s∧vj=.int .i64 r∧lo≤s∧s≤r∧r≤hi∧r-s≤g1∧Aside (SL w0 blk off n D wr)∧Hid ((r<hi→key (D.getD (q-r) 0)<key (D.getD r 0))∧(lo<s→key (D.getD (s-1) 0)≤key (D.getD (q+1-s) 0))))
  case atStart=>exact⟨lo,hi,by rw[zlo'.out],by rw[zhi'.out],Nat.le_refl _,hl2,Nat.le_refl _,Nat.le_refl _,S0,fun h=>absurd h (by omega),fun h=>absurd h (by omega)⟩
  case round=>
   clear S0
   obtain⟨s,r,rfl,rfl,hls,hsr,hrh,hg1,S1,H1⟩:=hrel
   by_cases hlt:s<r
   ·have hltz:(s:Int)<(r:Int):=by omega
    obtain⟨c,hc0⟩: ∃h,h=(s+r)/2:=⟨_,rfl⟩
    have hz:((s:Int)+(r:Int))/2=(c:Int):=by omega
    have hc1:s≤c:=by omega
    have hc2:c<r:=by omega
    obtain⟨t,ht⟩: ∃t,t+c=q:=⟨q-c,by omega⟩
    have zt:(q:Int)-(c:Int)=(t:Int):=by omega
    have zw:IntKind.i64.wrap ((q:Int)-(c:Int))=(t:Int):=by rw[IntKind.wrap_i64];omega
    obtain⟨x,hx⟩: ∃y,y=D.getD t 0:=⟨_,rfl⟩
    obtain⟨y,hy⟩: ∃y,y=D.getD c 0:=⟨_,rfl⟩
    have la:=S1.out.cl R t (by omega)
    have lb:=S1.out.cl R c (by omega)
    rw[←hx] at la
    rw[←hy] at lb
    have ba:(t:Int)<(n:Int):=by omega
    have bc:(c:Int)<(n:Int):=by omega
    have hc:=S1.out.cmp HC.out (x:=x) (y:=y) (by rw[hx];exact S1.out.at t (by omega)) (by rw[hy];exact S1.out.at c (by omega))
    have HY:Hid (x=D.getD (q-c) 0∧y=D.getD c 0):=⟨by rw[hx,show q-c=t from by omega],hy⟩
    have HT:Hid (t+c=q):=ht
    clear hc0 hx hy ht
    by_cases hk:key x<key y
    ·have hv:ahu key x y<0:=cmpK_lt.2 hk
     have hd:decide (ahu key x y<0)=true:=decide_eq_true hv
     have H2:Hid ((c<hi→key (D.getD (q-c) 0)<key (D.getD c 0))∧(lo<s→key (D.getD (s-1) 0)≤key (D.getD (q+1-s) 0))):=⟨fun _=>by rw[←HY.out.1,←HY.out.2];exact hk,H1.out.2⟩
     clear H1 hk
     go_wp2_with fail
     go_quiet (first | (go_at_fn g;refine Calls.quiet_of (hc _)))
     have S2:Aside (SL w0 blk off n D (wr.drewN nq)):=S1.out.drewN nq
     clear la lb hc S1
     generalize wr.drewN nq=w2 at S2⊢
     clear nq
     go_wp2
     go_roundg (c-s)
     case measure=>omega
     case rel=>exact⟨s,c,rfl,rfl,by omega,by omega,by omega,Nat.le_refl _,S2,H2⟩
    ·have hv: ¬ahu key x y<0:=fun h=>hk (cmpK_lt.1 h)
     have hd:decide (ahu key x y<0)=false:=decide_eq_false hv
     have H2:Hid ((r<hi→key (D.getD (q-r) 0)<key (D.getD r 0))∧(lo<c+1→key (D.getD (c+1-1) 0)≤key (D.getD (q+1-(c+1)) 0))):=⟨H1.out.1,fun _=>by rw[Nat.add_sub_cancel,show q+1-(c+1)=q-c from by omega,←HY.out.1,←HY.out.2];omega⟩
     clear H1 hk
     go_wp2_with fail
     go_quiet (first | (go_at_fn g;refine Calls.quiet_of (hc _)))
     have S2:Aside (SL w0 blk off n D (wr.drewN nq)):=S1.out.drewN nq
     clear la lb hc S1
     generalize wr.drewN nq=w2 at S2⊢
     clear nq
     go_wp2
     go_roundg (r-(c+1))
     case measure=>omega
     case rel=>exact⟨c+1,r,by first | rfl | go_num,rfl,by omega,by omega,by omega,Nat.le_refl _,S2,H2⟩
   ·have hltz: ¬(s:Int)<(r:Int):=by omega
    obtain rfl:s=r:=by omega
    obtain⟨A1,A2,B1,B2,en,HQ0,e1,e2,e3,e4⟩:=HS.out s hls hrh H1.out.1 H1.out.2
    have HQ:Aside (SymAt key P A B Q D a m b mid s en A1 A2 B1 B2):=HQ0
    have zen:(mid:Int)+(m:Int)-(s:Int)=(en:Int):=by have:=HQ0.en';omega
    have hsm:s≤mid:=by omega
    have hrot:s<m∧m<en→Calls Tryz.prog 154 #[.slice (some ⟨blk,off,none⟩) n cap,.int .i64 s,.int .i64 m,.int .i64 en,.func (.func g) #[] cb] wr fun e w'=>e=.returned (.tuple #[])∧SL w0 blk off n (P++(A1++B1)++(A2++B2++Q)) w':=fun h=>
     anh R (by omega) (.func (.func g) #[] cb) cap s m en wr S1.out HQ0.rot (by rw[List.length_append,HQ0.hP];exact HQ0.lA) (HQ0.lens).1 HQ0.lB h.1 h.2
    have hstay: ¬(s<m∧m<en)→SL w0 blk off n (P++(A1++B1)++(A2++B2++Q)) wr:=fun h=>S1.out.to (HQ0.stay e2 e3 h)
    have HROT:Aside _:=hrot
    have HSTAY:Aside _:=hstay
    clear H1 HQ0 HS S1 hrot hstay hl1 hl2 hl3 hl4 hl5 hls hrh hg1 hltz
    go_upto_region 39 with fail
    go_cut [185] from 178 to 185 (fun c wx=>c=.bool (decide (s<m∧m<en))∧wx=wr)
    case first=>
     by_cases d1:s<m
     ·have d1z:(s:Int)<(m:Int):=by omega
      by_cases d2:m<en
      ·have d2z:(m:Int)<(en:Int):=by omega
       go_wp2_with fail
       go_meet
       case rel=>exact⟨by simp[d1,d2],rfl⟩
      ·have d2z: ¬(m:Int)<(en:Int):=by omega
       go_wp2_with fail
       go_meet
       case rel=>exact⟨by simp[d2],rfl⟩
     ·have d1z: ¬(s:Int)<(m:Int):=by omega
      go_wp2_with fail
      go_meet
      case rel=>exact⟨by simp[d1],rfl⟩
    case rest=>
     obtain⟨rfl,rfl⟩:=hcut
     go_upto_if 185 with fail
     go_cut [191] from 185 to 191 (fun _ wx=>Aside (SL w0 blk off n (P++(A1++B1)++(A2++B2++Q)) wx))
     case first=>
      by_cases d:s<m∧m<en
      ·have dz:decide (s<m∧m<en)=true:=decide_eq_true d
       have hrot:=HROT.out d
       go_wp2_with fail
       refine hrot.mono ?_
       rintro e w2 ⟨rfl,S2⟩
       go_wp2_with fail
       go_meet
       case rel=>exact S2
      ·have dz:decide (s<m∧m<en)=false:=decide_eq_false d
       go_wp2_with fail
       go_meet
       case rel=>exact HSTAY.out d
     case rest=>
      clear HROT HSTAY
      have hl:a<s∧s<mid→Calls Tryz.prog 118 #[.slice (some ⟨blk,off,none⟩) n cap,.int .i64 a,.int .i64 s,.int .i64 mid,.func (.func g) #[] cb] wc fun e w'=>aco key w0 blk off n P (A1++B1) (A2++B2++Q) e w':=fun h=>by
       have q:=HQ.out
       refine IH.out P A1 B1 (A2++B2++Q) _ cap a s mid wc (by omega) hcut.out (by simp) q.hP q.lA q.lens.2.1 h.1 h.2 ?_ ?_
       ·have:=q.sA;rw[q.hA] at this;exact this.left
       ·have:=q.sB;rw[q.hB] at this;exact this.left
      have hl': ¬(a<s∧s<mid)→akw key w0 blk off n P (A1++B1) (A2++B2++Q) wc:=fun h=>⟨A1++B1,hcut.out,HQ.out.left e1 e3 h,AlikeK.refl _,rfl⟩
      have hl2: ∀C w',SL w0 blk off n (P++C++(A2++B2++Q)) w'→C.length=(A1++B1).length:=fun C w' h=>by
       have h1:=h.len
       have h2:=hcut.out.len
       simp only[List.length_append] at h1 h2⊢
       omega
      have HL:Aside _:=hl
      have HL':Aside _:=hl'
      have HL2:Aside _:=hl2
      clear hl hl' hl2 hcut
      generalize wc=wd at HL HL'⊢
      go_upto_region 41 with fail
      go_cut [199] from 192 to 199 (fun c wx=>c=.bool (decide (a<s∧s<mid))∧wx=wd)
      case first=>
       by_cases d1:a<s
       ·have d1z:(a:Int)<(s:Int):=by omega
        by_cases d2:s<mid
        ·have d2z:(s:Int)<(mid:Int):=by omega
         go_wp2_with fail
         go_meet
         case rel=>exact⟨by simp[d1,d2],rfl⟩
        ·have d2z: ¬(s:Int)<(mid:Int):=by omega
         go_wp2_with fail
         go_meet
         case rel=>exact⟨by simp[d2],rfl⟩
       ·have d1z: ¬(a:Int)<(s:Int):=by omega
        go_wp2_with fail
        go_meet
        case rel=>exact⟨by simp[d1],rfl⟩
      case rest=>
       obtain⟨rfl,rfl⟩:=hcut
       go_upto_if 199 with fail
       go_cut [205] from 199 to 205 (fun _ wx=>Aside (akw key w0 blk off n P (A1++B1) (A2++B2++Q) wx))
       case first=>
        by_cases d:a<s∧s<mid
        ·have dz:decide (a<s∧s<mid)=true:=decide_eq_true d
         have hrot:=HL.out d
         go_wp2_with fail
         refine hrot.mono ?_
         rintro e w2 ⟨rfl,C,S2,g1,g2⟩
         have hcl:=HL2.out C w2 S2
         go_wp2_with fail
         go_meet
         case rel=>exact⟨C,S2,g1,g2,hcl⟩
        ·have dz:decide (a<s∧s<mid)=false:=decide_eq_false d
         go_wp2_with fail
         go_meet
         case rel=>exact HL'.out d
       case rest=>
        clear HL HL' HL2
        obtain⟨C1,SC,sC,aC,lC⟩:=hcut.out
        have hlen:(P++C1).length=mid:=by
         have q:=HQ.out
         have:=q.lens
         have:=q.hP
         have:=q.lA
         rw[List.length_append] at lC⊢
         omega
        have hr:mid<en∧en<b→Calls Tryz.prog 118 #[.slice (some ⟨blk,off,none⟩) n cap,.int .i64 mid,.int .i64 en,.int .i64 b,.func (.func g) #[] cb] wc fun e w'=>aco key w0 blk off n (P++C1) (A2++B2) Q e w':=fun h=>by
         have q:=HQ.out
         refine IH.out (P++C1) A2 B2 Q _ cap mid en b wc (by omega) SC (by simp) hlen q.lens.2.2.1 q.lens.2.2.2 h.1 h.2 ?_ ?_
         ·have:=q.sA;rw[q.hA] at this;exact this.right
         ·have:=q.sB;rw[q.hB] at this;exact this.right
        have hfin: ∀C2 w',SL w0 blk off n ((P++C1)++C2++Q) w'→SortedK key C2→AlikeK key (A2++B2) C2→aco key w0 blk off n P (A++B) Q (.returned (.tuple #[])) w':=fun C2 w' h g1 g2=>by
         have q:=HQ.out
         have m2:=aqw (A1:=A1) (A2:=A2) (B1:=B1) (B2:=B2) (C1:=C1) (C2:=C2) (by rw[←q.hA];exact q.sA) (by rw[←q.hB];exact q.sB) q.lo q.hi sC aC g1 g2
         rw[←q.hA,←q.hB] at m2
         exact⟨rfl,C1++C2,h.to (by simp),m2.1,m2.2⟩
        have hr': ¬(mid<en∧en<b)→aco key w0 blk off n P (A++B) Q (.returned (.tuple #[])) wc:=fun h=>hfin (A2++B2) wc (SC.to (by simp)) (HQ.out.right e2 e4 h) (AlikeK.refl _)
        have HR:Aside _:=hr
        have HR':Aside _:=hr'
        have HF:Aside _:=hfin
        clear hr hr' hfin hlen lC aC sC SC hcut HQ
        generalize wc=wd at HR HR'⊢
        by_cases d1:mid<en
        ·have d1z:(mid:Int)<(en:Int):=by omega
         by_cases d2:en<b
         ·have d2z:(en:Int)<(b:Int):=by omega
          have hrot:=HR.out ⟨d1,d2⟩
          go_wp2_with fail
          refine hrot.mono ?_
          rintro e w2 ⟨rfl,C,S2,g1,g2⟩
          have hfin:=HF.out C w2 S2 g1 g2
          go_wp2
          go_end0
          exact hfin
         ·have d2z: ¬(en:Int)<(b:Int):=by omega
          have hfin:=HR'.out (fun h=>d2 h.2)
          go_wp2
          go_end0
          exact hfin
        ·have d1z: ¬(mid:Int)<(en:Int):=by omega
         have hfin:=HR'.out (fun h=>d1 h.1)
         go_wp2
         go_end0
         exact hfin
theorem ap5 {w0:World}{blk off n:Nat}(R:RowN w0 blk off n)(hn:n<2305843009213693952){g:Nat}{cb:Array Value}{key:Int→Int}(eg: ∀args w,(callFunc g args).run Tryz.prog w=.ok (.enter g args) w)(hC:apz g cb key w0 blk off n): ∀N,amh key w0 blk off n g cb N:=by
 intro N
 induction N with
 | zero=>intro P A B Q D cap a m b w hN _ _ _ _ _ h1 h2;omega
 | succ N ih=>exact aot R hn eg hC N ih
end Go.Proofs.YtfhpgmlfgjfknaaGreatDoor
namespace Go.Vf
structure StepA (key:Int→Int)(D0 D:List Int)(a:Nat)(Bs:List (List Int))(X:List Int):Prop where
 is:D=Bs.flatten++X
 each: ∀B∈Bs,B.length=20∧SortedK key B
 len:Bs.flatten.length=a
 al:AlikeK key D0 D
structure StepB (key:Int→Int)(D0 D:List Int)(bs a:Nat)(Ds Bs:List (List Int))(X:List Int):Prop where
 is:D=Ds.flatten++Bs.flatten++X
 eachD: ∀B∈Ds,B.length=2*bs∧SortedK key B
 each: ∀B∈Bs,B.length=bs∧SortedK key B
 less:X.length<bs
 rest:SortedK key X
 len:Ds.flatten.length=a
 al:AlikeK key D0 D
theorem StepA.start {key:Int→Int}{D0:List Int}:StepA key D0 D0 0 [] D0:=⟨by simp,by simp,rfl,AlikeK.refl _⟩
theorem afp {Bs:List (List Int)}{C:List Int}:(Bs++[C]).flatten=Bs.flatten++C:=by simp
theorem StepA.next {key:Int→Int}{D0 D:List Int}{a:Nat}{Bs:List (List Int)}{X C:List Int}(h:StepA key D0 D a Bs X)(hs:SortedK key C)(ha:AlikeK key (X.take 20) C)(hl:C.length=20):StepA key D0 (Bs.flatten++C++X.drop 20) (a+20) (Bs++[C]) (X.drop 20):=by
 refine⟨by rw[afp],?_,by rw[afp,List.length_append,h.len,hl],?_⟩
 ·intro B hB
  rcases List.mem_append.1 hB with hB | hB
  ·exact h.each B hB
  ·rw[List.mem_singleton] at hB;rw[hB];exact⟨hl,hs⟩
 ·refine h.al.trans ?_
  rw[h.is,List.append_assoc]
  refine AlikeK.append (AlikeK.refl _) ?_
  have e:=(List.take_append_drop 20 X).symm
  generalize X.drop 20=Y at e⊢
  rw[e]
  exact AlikeK.append ha (AlikeK.refl _)
theorem StepA.done {key:Int→Int}{D0 D:List Int}{a:Nat}{Bs:List (List Int)}{X C:List Int}(h:StepA key D0 D a Bs X)(hx:X.length<20)(hs:SortedK key C)(ha:AlikeK key X C)(hl:C.length=X.length):StepB key D0 (Bs.flatten++C) 20 0 [] Bs C:=by
 refine⟨by simp,by simp,h.each,by omega,hs,rfl,?_⟩
 refine h.al.trans ?_
 rw[h.is]
 exact AlikeK.append (AlikeK.refl _) ha
theorem StepB.pair {key:Int→Int}{D0 D:List Int}{bs a:Nat}{Ds Bs:List (List Int)}{X:List Int}(h:StepB key D0 D bs a Ds Bs X)(hn:a+2*bs≤D.length): ∃B1 B2 Bs',Bs=B1::B2::Bs'∧B1.length=bs∧B2.length=bs∧SortedK key B1∧SortedK key B2:=by
 have e:D.length=a+Bs.flatten.length+X.length:=by rw[h.is,List.length_append,List.length_append,h.len]
 rw[ahs h.each] at e
 have hx:=h.less
 rcases Bs with _ | ⟨B1,_ | ⟨B2,Bs⟩⟩
 ·exfalso;simp at e;omega
 ·exfalso;simp at e;omega
 ·exact⟨B1,B2,Bs,rfl,(h.each B1 (by simp)).1,(h.each B2 (by simp)).1,(h.each B1 (by simp)).2,(h.each B2 (by simp)).2⟩
theorem StepB.next {key:Int→Int}{D0 D:List Int}{bs a:Nat}{Ds Bs:List (List Int)}{X B1 B2 C:List Int}(h:StepB key D0 D bs a Ds (B1::B2::Bs) X)(hs:SortedK key C)(ha:AlikeK key (B1++B2) C)(hl:C.length=2*bs):StepB key D0 (Ds.flatten++C++(Bs.flatten++X)) bs (a+2*bs) (Ds++[C]) Bs X:=by
 refine⟨by rw[afp,List.append_assoc (Ds.flatten++C)],?_,fun B hB=>h.each B (by simp[hB]),h.less,h.rest,by rw[afp,List.length_append,h.len,hl],?_⟩
 ·intro B hB
  rcases List.mem_append.1 hB with hB | hB
  ·exact h.eachD B hB
  ·rw[List.mem_singleton] at hB;rw[hB];exact⟨hl,hs⟩
 ·refine h.al.trans ?_
  have e:D=Ds.flatten++(B1++B2)++(Bs.flatten++X):=by rw[h.is];simp
  rw[e]
  exact AlikeK.append (AlikeK.append (AlikeK.refl _) ha) (AlikeK.refl _)
theorem StepB.last {key:Int→Int}{D0 D:List Int}{bs a:Nat}{Ds Bs:List (List Int)}{X:List Int}(h:StepB key D0 D bs a Ds Bs X)(hn: ¬a+2*bs≤D.length)(hm:a+bs<D.length): ∃B1,Bs=[B1]∧B1.length=bs∧SortedK key B1∧X≠ []:=by
 have e:D.length=a+Bs.flatten.length+X.length:=by rw[h.is,List.length_append,List.length_append,h.len]
 rw[ahs h.each] at e
 have hx:=h.less
 rcases Bs with _ | ⟨B1,_ | ⟨B2,Bs⟩⟩
 ·exfalso;simp at e;omega
 ·refine⟨B1,rfl,(h.each B1 (by simp)).1,(h.each B1 (by simp)).2,fun e'=> ?_⟩
  subst e';simp at e;omega
 ·exfalso
  simp only[List.length_cons] at e
  have:2*bs≤(Bs.length+1+1)*bs:=Nat.mul_le_mul_right _ (by omega)
  omega
theorem StepB.turn {key:Int→Int}{D0 D:List Int}{bs a:Nat}{Ds:List (List Int)}{X B1 C:List Int}(h:StepB key D0 D bs a Ds [B1] X)(hb:B1.length=bs)(hs:SortedK key C)(ha:AlikeK key (B1++X) C)(hl:C.length=(B1++X).length):StepB key D0 (Ds.flatten++C) (2*bs) 0 [] Ds C:=by
 have hx:=h.less
 refine⟨by simp,by simp,h.eachD,by rw[hl,List.length_append];omega,hs,rfl,?_⟩
 refine h.al.trans ?_
 have e:D=Ds.flatten++(B1++X):=by rw[h.is];simp
 rw[e]
 exact AlikeK.append (AlikeK.refl _) ha
theorem StepB.over {key:Int→Int}{D0 D:List Int}{bs a:Nat}{Ds Bs:List (List Int)}{X:List Int}(h:StepB key D0 D bs a Ds Bs X)(hm: ¬a+bs<D.length): ∃C,StepB key D0 D (2*bs) 0 [] Ds C:=by
 have e:D.length=a+Bs.flatten.length+X.length:=by rw[h.is,List.length_append,List.length_append,h.len]
 rw[ahs h.each] at e
 have hx:=h.less
 rcases Bs with _ | ⟨B1,_ | ⟨B2,Bs⟩⟩
 ·exact⟨X,by rw[h.is];simp,by simp,h.eachD,by omega,h.rest,rfl,h.al⟩
 ·have hX:X=[]:=List.length_eq_zero_iff.1 (by simp at e;omega)
  subst hX
  have h1:=h.each B1 (by simp)
  exact⟨B1,by rw[h.is];simp,by simp,h.eachD,by omega,h1.2,rfl,h.al⟩
 ·exfalso
  simp only[List.length_cons] at e
  have:2*bs≤(Bs.length+1+1)*bs:=Nat.mul_le_mul_right _ (by omega)
  omega
theorem StepB.end {key:Int→Int}{D0 D:List Int}{bs:Nat}{Bs:List (List Int)}{X:List Int}(h:StepB key D0 D bs 0 [] Bs X)(hn:D.length≤bs):SortedK key D∧AlikeK key D0 D:=
 ⟨Blocks.done (Bs:=Bs) (R:=X) ⟨by rw[h.is];simp,h.each,h.less,h.rest⟩ hn,h.al⟩
end Go.Vf
namespace Go.Proofs.YtfhpgmlfgjfknaaGreatDoor
open Go.Shelf Go.RowKit Go.Lib Go.Sort Go.Vf
def aok (key:Int→Int)(w0:World)(blk off n:Nat)(D0:List Int)(e:Ending)(w':World):Prop:=e=.returned (.tuple #[])∧ ∃C,SL w0 blk off n C w'∧SortedK key C∧AlikeK key D0 C
theorem SL.piece {w0 W:World}{blk off n:Nat}{D:List Int}(h:SL w0 blk off n D W){P A Q C:List Int}{w':World}(hD:D=P++A++Q)(g:SL w0 blk off n (P++C++Q) w'):C.length=A.length:=by
 have h1:=h.len
 have h2:=g.len
 rw[hD] at h1
 simp only[List.length_append] at h1 h2
 omega
set_option maxHeartbeats 16000000 in
set_option maxRecDepth 100000 in
theorem awj {w0:World}{blk off n:Nat}(R:RowN w0 blk off n)(hn:n<1152921504606846976){g:Nat}{cb:Array Value}{key:Int→Int}(eg: ∀args w,(callFunc g args).run Tryz.prog w=.ok (.enter g args) w)(hC:apz g cb key w0 blk off n){D0:List Int}(cap:Nat)(w:World)
  (S:SL w0 blk off n D0 w):
  Calls Tryz.prog 75 #[.slice (some ⟨blk,off,none⟩) n cap,.int .i64 n,.func (.func g) #[] cb] w fun e w'=>aok key w0 blk off n D0 e w':=by
 have S0:Aside (SL w0 blk off n D0 w):=S
 have H0:Hid (StepA key D0 D0 0 [] D0):=StepA.start
 have hI: ∀(P A Q D:List Int) (a b:Nat) (w:World),SL w0 blk off n D w→D=P++A++Q→P.length=a→a+A.length=b→Calls Tryz.prog 117 #[.slice (some ⟨blk,off,none⟩) n cap,.int .i64 a,.int .i64 b,.func (.func g) #[] cb] w fun e w'=>aco key w0 blk off n P A Q e w':=fun P A Q D a b w h1 h2 h3 h4=>apl R (by omega) eg hC cap a b w h1 h2 h3 h4
 have hY: ∀N,amh key w0 blk off n g cb N:=ap5 R (by omega) eg hC
 have HI:Aside _:=hI
 have HY:Aside _:=hY
 clear S hI hY hC
 go_enter Tryz.func75,Tryz.ntmps75
 go_wp2
 go_loopg [7,8] n (fun g1 va vb wr=> ∃(a b:Nat) (D:List Int) (Bs:List (List Int)) (X:List Int),va=.int .i64 a∧vb=.int .i64 b∧a≤n∧n-a≤g1∧Hid (b=a+20)∧Aside (SL w0 blk off n D wr)∧Hid (StepA key D0 D a Bs X))
 case atStart=>exact⟨0,20,D0,[],D0,rfl,rfl,Nat.zero_le _,by omega,rfl,S0,H0⟩
 case round=>
  clear S0 H0
  obtain⟨a,b,D,Bs,X,rfl,rfl,han,hg1,HB,S1,H1⟩:=hrel
  have hlen:a+X.length=n:=by
   have h1:=S1.out.len
   rw[H1.out.is,List.length_append,H1.out.len] at h1
   exact h1
  have hb:=HB.out
  by_cases hlt:b≤n
  ·have hltz:(b:Int)≤(n:Int):=by omega
   have hS:=HI.out Bs.flatten (X.take 20) (X.drop 20) D a b wr S1.out (by rw[H1.out.is,List.append_assoc,List.take_append_drop]) H1.out.len (by rw[List.length_take];omega)
   have hP: ∀C w',SL w0 blk off n (Bs.flatten++C++X.drop 20) w'→SortedK key C→AlikeK key (X.take 20) C→StepA key D0 (Bs.flatten++C++X.drop 20) b (Bs++[C]) (X.drop 20):=fun C w' h1 h2 h3=>by
    have:=S1.out.piece (P:=Bs.flatten) (A:=X.take 20) (Q:=X.drop 20) (by rw[H1.out.is,List.append_assoc,List.take_append_drop]) h1
    rw[List.length_take] at this
    rw[hb]
    exact H1.out.next h2 h3 (by omega)
   have HP:Aside _:=hP
   obtain⟨b2,hb2⟩: ∃q,q=b+20:=⟨_,rfl⟩
   have zb2:(b:Int)+20=(b2:Int):=by omega
   have HB2:Hid (b2=b+20):=hb2
   clear hP S1 H1 hlen hb hb2
   go_wp2_with fail
   refine hS.mono ?_
   rintro e w2 ⟨rfl,C,S2,g1,g2⟩
   have H2:Hid (StepA key D0 (Bs.flatten++C++X.drop 20) b (Bs++[C]) (X.drop 20)):=HP.out C w2 S2 g1 g2
   have S2:Aside (SL w0 blk off n (Bs.flatten++C++X.drop 20) w2):=S2
   generalize Bs.flatten++C++X.drop 20=D2 at S2 H2
   clear g1 g2 hS HP
   go_wp2
   go_roundg (n-b)
   case measure=>have:=HB.out;omega
   case rel=>exact⟨b,b2,D2,_,_,rfl,by first | rfl | (congr 1),hlt,Nat.le_refl _,HB2,S2,H2⟩
  ·have hltz: ¬(b:Int)≤(n:Int):=by omega
   have hS:=HI.out Bs.flatten X [] D a n wr S1.out (by rw[H1.out.is];simp) H1.out.len hlen
   have hP: ∀C w',SL w0 blk off n (Bs.flatten++C++[]) w'→SortedK key C→AlikeK key X C→StepB key D0 (Bs.flatten++C++[]) 20 0 [] Bs C:=fun C w' h1 h2 h3=>by
    have:=S1.out.piece (P:=Bs.flatten) (A:=X) (Q:=[]) (by rw[H1.out.is];simp) h1
    rw[List.append_nil]
    exact H1.out.done (by omega) h2 h3 this
   have HP:Aside _:=hP
   clear hP S1 H1 hlen hb
   go_wp2_with fail
   refine hS.mono ?_
   rintro e w2 ⟨rfl,C,S2,g1,g2⟩
   have H2:Hid (StepB key D0 (Bs.flatten++C++[]) 20 0 [] Bs C):=HP.out C w2 S2 g1 g2
   have S2:Aside (SL w0 blk off n (Bs.flatten++C++[]) w2):=S2
   generalize Bs.flatten++C++[]=D2 at S2 H2
   clear g1 g2 hS HP HB
   go_wp2
   go_loopg [6] n (fun g2 vs wr=> ∃(bs:Nat) (D:List Int) (Bs:List (List Int)) (X:List Int),vs=.int .i64 bs∧0<bs∧n-bs≤g2∧Aside (SL w0 blk off n D wr)∧Hid (StepB key D0 D bs 0 [] Bs X))
   case atStart=>exact⟨20,D2,Bs,C,rfl,by omega,by omega,S2,H2⟩
   case round=>
    clear S2 H2
    obtain⟨bs,D,Bs,X,rfl,hbs,hg2,S1,H1⟩:=hrel
    by_cases hlt:bs<n
    ·have hltz:(bs:Int)<(n:Int):=by omega
     obtain⟨b0,hb0⟩: ∃q,q=2*bs:=⟨_,rfl⟩
     have zb0:2*(bs:Int)=(b0:Int):=by omega
     have zb1:(bs:Int)*2=(b0:Int):=by omega
     have hb0n:b0<2*n:=by omega
     have HB0:Hid (b0=2*bs):=hb0
     clear hb0
     go_wp2
     go_loopg [7,8] n (fun g3 va vb wr=> ∃(a b:Nat) (D:List Int) (Ds Bs:List (List Int)) (X:List Int),va=.int .i64 a∧vb=.int .i64 b∧a≤n∧n-a≤g3∧Hid (b=a+2*bs)∧Aside (SL w0 blk off n D wr)∧Hid (StepB key D0 D bs a Ds Bs X))
     case atStart=>exact⟨0,b0,D,[],Bs,X,rfl,rfl,Nat.zero_le _,by omega,by rw[HB0.out];show _=_;omega,S1,H1⟩
     case round=>
      clear S1 H1
      obtain⟨a,b,D,Ds,Bs,X,rfl,rfl,han,hg3,HB,S1,H1⟩:=hrel
      have hDn:=S1.out.len
      have hb:=HB.out
      obtain⟨m,hm⟩: ∃q,q=a+bs:=⟨_,rfl⟩
      have zm:(a:Int)+(bs:Int)=(m:Int):=by omega
      by_cases hle:b≤n
      ·have hlez:(b:Int)≤(n:Int):=by omega
       obtain⟨B1,B2,Bs',rfl,l1,l2,s1,s2⟩:=H1.out.pair (by omega)
       have hD:D=Ds.flatten++B1++B2++(Bs'.flatten++X):=by rw[H1.out.is];simp
       have hS:=HY.out (b-a) Ds.flatten B1 B2 (Bs'.flatten++X) D cap a m b wr (Nat.le_refl _) S1.out hD H1.out.len (by omega) (by omega) (by omega) (by omega) s1 s2
       have hP: ∀C w',SL w0 blk off n (Ds.flatten++C++(Bs'.flatten++X)) w'→SortedK key C→AlikeK key (B1++B2) C→StepB key D0 (Ds.flatten++C++(Bs'.flatten++X)) bs b (Ds++[C]) Bs' X:=fun C w' h1 h2 h3=>by
        have:=S1.out.piece (P:=Ds.flatten) (A:=B1++B2) (Q:=Bs'.flatten++X) (by rw[hD];simp) h1
        rw[List.length_append] at this
        rw[hb]
        exact H1.out.next h2 h3 (by omega)
       have HP:Aside _:=hP
       obtain⟨b2,hb2⟩: ∃q,q=b+2*bs:=⟨_,rfl⟩
       have zb2:(b:Int)+(b0:Int)=(b2:Int):=by have:=HB0.out;omega
       have HB2:Hid (b2=b+2*bs):=hb2
       have hb2n:b2<4*n:=by omega
       clear hP S1 H1 hDn hb hb2 hm hD l1 l2 s1 s2
       go_wp2_with fail
       refine hS.mono ?_
       rintro e w2 ⟨rfl,C,S2,g1,g2⟩
       have H2:Hid (StepB key D0 (Ds.flatten++C++(Bs'.flatten++X)) bs b (Ds++[C]) Bs' X):=HP.out C w2 S2 g1 g2
       have S2:Aside (SL w0 blk off n (Ds.flatten++C++(Bs'.flatten++X)) w2):=S2
       generalize Ds.flatten++C++(Bs'.flatten++X)=D2 at S2 H2
       clear g1 g2 hS HP
       go_wp2
       go_roundg (n-b)
       case measure=>have:=HB.out;omega
       case rel=>exact⟨b,b2,D2,_,_,_,rfl,by first | rfl | (congr 1),hle,Nat.le_refl _,HB2,S2,H2⟩
      ·have hlez: ¬(b:Int)≤(n:Int):=by omega
       by_cases hmn:m<n
       ·have hmnz:(m:Int)<(n:Int):=by omega
        obtain⟨B1,rfl,l1,s1,hX⟩:=H1.out.last (by omega) (by omega)
        have hD:D=Ds.flatten++B1++X++[]:=by rw[H1.out.is];simp
        have hDl:n=a+bs+X.length:=by rw[←hDn,hD];simp only[List.length_append,H1.out.len,l1,List.length_nil];omega
        have hX0:0<X.length:=List.length_pos_iff.2 hX
        have hS:=HY.out (n-a) Ds.flatten B1 X [] D cap a m n wr (Nat.le_refl _) S1.out hD H1.out.len (by omega) (by omega) (by omega) (by omega) s1 H1.out.rest
        have hP: ∀C w',SL w0 blk off n (Ds.flatten++C++[]) w'→SortedK key C→AlikeK key (B1++X) C→StepB key D0 (Ds.flatten++C++[]) b0 0 [] Ds C:=fun C w' h1 h2 h3=>by
         have:=S1.out.piece (P:=Ds.flatten) (A:=B1++X) (Q:=[]) (by rw[hD];simp) h1
         rw[HB0.out,List.append_nil]
         exact H1.out.turn l1 h2 h3 this
        have HP:Aside _:=hP
        clear hP S1 H1 hDn hb hm hD l1 s1 hX hDl hX0
        go_wp2_with fail
        refine hS.mono ?_
        rintro e w2 ⟨rfl,C,S2,g1,g2⟩
        have H2:Hid (StepB key D0 (Ds.flatten++C++[]) b0 0 [] Ds C):=HP.out C w2 S2 g1 g2
        have S2:Aside (SL w0 blk off n (Ds.flatten++C++[]) w2):=S2
        generalize Ds.flatten++C++[]=D2 at S2 H2
        clear g1 g2 hS HP
        go_wp2
        go_roundg (n-b0)
        case measure=>have:=HB0.out;omega
        case rel=>exact⟨b0,D2,_,_,by first | rfl | (congr 1),by have:=HB0.out;omega,Nat.le_refl _,S2,H2⟩
       ·have hmnz: ¬(m:Int)<(n:Int):=by omega
        obtain⟨C,hC2⟩:=H1.out.over (by omega)
        have H2:Hid (StepB key D0 D b0 0 [] Ds C):=by rw[HB0.out];exact hC2
        clear H1 hDn hb hm hC2
        go_wp2
        go_roundg (n-b0)
        case measure=>have:=HB0.out;omega
        case rel=>exact⟨b0,D,_,_,by first | rfl | (congr 1),by have:=HB0.out;omega,Nat.le_refl _,S1,H2⟩
    ·have hltz: ¬(bs:Int)<(n:Int):=by omega
     go_wp2
     go_end0
     exact⟨rfl,D,S1.out,H1.out.end (by rw[S1.out.len];omega)⟩
set_option maxRecDepth 100000 in
theorem amn {w0:World}{blk off n:Nat}(R:RowN w0 blk off n)(hn:n<1152921504606846976){g:Nat}{cb:Array Value}{key:Int→Int}(eg: ∀args w,(callFunc g args).run Tryz.prog w=.ok (.enter g args) w)(hC:apz g cb key w0 blk off n){D0:List Int}(cap:Nat)(w:World)
  (S:SL w0 blk off n D0 w):
  Calls Tryz.prog 45 #[.slice (some ⟨blk,off,none⟩) n cap,.func (.func g) #[] cb] w fun e w'=>aok key w0 blk off n D0 e w':=by
 have h:=awj R hn eg hC cap w S
 clear hC S
 go_enter Tryz.func45,Tryz.ntmps45
 go_wp2_with fail
 refine h.mono ?_
 rintro e w' ⟨rfl,h⟩
 go_wp2
 go_end0
 exact⟨rfl,h⟩
end Go.Proofs.YtfhpgmlfgjfknaaGreatDoor
