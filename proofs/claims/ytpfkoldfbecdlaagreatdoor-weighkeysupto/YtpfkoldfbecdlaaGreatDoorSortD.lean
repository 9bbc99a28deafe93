/- slices.symMergeCmpFunc at ints, whole (a contract; nothing is claimed here). -/
import Derived.Test.YtpfkoldfbecdlaaGreatDoorJ16
import Derived.Deep.CutRange
import Derived.Deep.Cut
import Derived.Deep.RegionHeld
namespace Go.Proofs.YtpfkoldfbecdlaaGreatDoor
open Go.Shelf Go.RowKit Go.Lib Go.Sort Go.Vf
def SymSays (key:Int→Int)(w0:World)(blk off n g:Nat)(cb:Array Value)(N:Nat):Prop:= ∀(P A B Q D:List Int) (cap a m b:Nat) (w:World),b-a≤N→SL w0 blk off n D w→D=P++A++B++Q→P.length=a→a+A.length=m→m+B.length=b→a<m→m<b→SortedK key A→SortedK key B→
 Calls Tryz.prog 214 #[.slice (some ⟨blk,off,none⟩) n cap,.int .i64 a,.int .i64 m,.int .i64 b,.func (.func g) #[] cb] w fun e w'=>acn key w0 blk off n P (A++B) Q e w'
structure SymAt (key:Int→Int)(P A B Q D:List Int)(a m b mid s en:Nat)(A1 A2 B1 B2:List Int):Prop where
 hD:D=P++A++B++Q
 hP:P.length=a
 hA:A=A1++A2
 hB:B=B1++B2
 lA:a+A1.length=s
 lm:a+A.length=m
 lB:m+B1.length=en
 lb:m+B.length=b
 en':en+s=mid+m
 sA:SortedK key A
 sB:SortedK key B
 lo: ∀u∈A2,∀v∈B1,key v<key u
 hi: ∀u∈A1,∀v∈B2,key u≤key v
theorem SymAt.rot {key:Int→Int}{P A B Q D:List Int}{a m b mid s en:Nat}{A1 A2 B1 B2:List Int}(h:SymAt key P A B Q D a m b mid s en A1 A2 B1 B2):RotAt (P++(A1++B1)++(A2++B2++Q)) (P++A1) A2 B1 (B2++Q) D:=
 ⟨by rw[h.hD,h.hA,h.hB];simp,by simp⟩
theorem SymAt.stay {key:Int→Int}{P A B Q D:List Int}{a m b mid s en:Nat}{A1 A2 B1 B2:List Int}(h:SymAt key P A B Q D a m b mid s en A1 A2 B1 B2)(hs:s≤m)(he:m≤en)(hn: ¬(s<m∧m<en)):D=P++(A1++B1)++(A2++B2++Q):=by
 have l1:=h.lA;have l2:=h.lm;have l3:=h.lB
 have l4:A.length=A1.length+A2.length:=by rw[h.hA,List.length_append]
 rcases Nat.lt_or_ge s m with c | c
 ·have e:B1=[]:=List.length_eq_zero_iff.1 (by omega)
  rw[h.hD,h.hA,h.hB,e];simp
 ·have e:A2=[]:=List.length_eq_zero_iff.1 (by omega)
  rw[h.hD,h.hA,h.hB,e];simp
theorem SymAt.left {key:Int→Int}{P A B Q D:List Int}{a m b mid s en:Nat}{A1 A2 B1 B2:List Int}(h:SymAt key P A B Q D a m b mid s en A1 A2 B1 B2)(hs:a≤s)(he:m≤en)(hn: ¬(a<s∧s<mid)):SortedK key (A1++B1):=by
 have l1:=h.lA;have l3:=h.lB;have l4:=h.en'
 have sA:=h.sA;have sB:=h.sB
 rw[h.hA] at sA;rw[h.hB] at sB
 rcases Nat.lt_or_ge a s with c | c
 ·have e:B1=[]:=List.length_eq_zero_iff.1 (by omega)
  rw[e,List.append_nil];exact sA.left
 ·have e:A1=[]:=List.length_eq_zero_iff.1 (by omega)
  rw[e,List.nil_append];exact sB.left
theorem SymAt.right {key:Int→Int}{P A B Q D:List Int}{a m b mid s en:Nat}{A1 A2 B1 B2:List Int}(h:SymAt key P A B Q D a m b mid s en A1 A2 B1 B2)(hs:s≤m)(he:en≤b)(hn: ¬(mid<en∧en<b)):SortedK key (A2++B2):=by
 have l1:=h.lA;have l2:=h.lm;have l3:=h.lB;have l4:=h.en';have l5:=h.lb
 have e1:A.length=A1.length+A2.length:=by rw[h.hA,List.length_append]
 have e2:B.length=B1.length+B2.length:=by rw[h.hB,List.length_append]
 have sA:=h.sA;have sB:=h.sB
 rw[h.hA] at sA;rw[h.hB] at sB
 rcases Nat.lt_or_ge mid en with c | c
 ·have e:B2=[]:=List.length_eq_zero_iff.1 (by omega)
  rw[e,List.append_nil];exact sA.right
 ·have e:A2=[]:=List.length_eq_zero_iff.1 (by omega)
  rw[e,List.nil_append];exact sB.right
theorem SymAt.lens {key:Int→Int}{P A B Q D:List Int}{a m b mid s en:Nat}{A1 A2 B1 B2:List Int}(h:SymAt key P A B Q D a m b mid s en A1 A2 B1 B2):s+A2.length=m∧s+B1.length=mid∧mid+A2.length=en∧en+B2.length=b:=by
 have l1:=h.lA;have l2:=h.lm;have l3:=h.lB;have l4:=h.en';have l5:=h.lb
 have e1:A.length=A1.length+A2.length:=by rw[h.hA,List.length_append]
 have e2:B.length=B1.length+B2.length:=by rw[h.hB,List.length_append]
 omega
def LeftPost (key:Int→Int)(w0:World)(blk off n:Nat)(P X Q:List Int)(w':World):Prop:= ∃C,SL w0 blk off n (P++C++Q) w'∧SortedK key C∧AlikeK key X C∧C.length=X.length
set_option maxHeartbeats 16000000 in
set_option maxRecDepth 100000 in
theorem symMerge_step {w0:World}{blk off n:Nat}(R:RowN w0 blk off n)(hn:n<2305843009213693952){g:Nat}{cb:Array Value}{key:Int→Int}(eg: ∀args w,(callFunc g args).run Tryz.prog w=.ok (.enter g args) w)(hC:CmpOk g cb key w0 blk off n)(N:Nat)(ih:SymSays key w0 blk off n g cb N):
  SymSays key w0 blk off n g cb (N+1):=by
 intro P A B Q D cap a m b w hN S hD hP hA hB ham hmb sA sB
 by_cases c1:m-a=1
 ·obtain⟨x,rfl⟩: ∃x,A=[x]:=List.length_eq_one_iff.1 (by omega)
  exact symOne_any R (by omega) eg hC cap a m b w S hD hP (by omega) hB sB
 by_cases c2:b-m=1
 ·obtain⟨x,rfl⟩: ∃x,B=[x]:=List.length_eq_one_iff.1 (by omega)
  exact symLast_any R (by omega) eg hC cap a m b w S hD hP hA (by omega) (by omega) sA
 have hle:b≤n:=by rw[←S.len,hD];simp only[List.length_append];omega
 obtain⟨mid,hmid⟩: ∃mid,mid=(a+b)/2:=⟨_,rfl⟩
 have zmid:((a:Int)+(b:Int))/2=(mid:Int):=by omega
 have hm1:a<mid:=by omega
 have hm2:mid<b:=by omega
 have S0:Aside (SL w0 blk off n D w):=S
 have IH:Aside (SymSays key w0 blk off n g cb N):=ih
 have HC:Aside _:=hC
 have c1z: ¬(m:Int)-(a:Int)=1:=by omega
 have c1q:((m:Int)-(a:Int)==1)=false:=by simpa using c1z
 have c2z: ¬(b:Int)-(m:Int)=1:=by omega
 have c2q:((b:Int)-(m:Int)==1)=false:=by simpa using c2z
 obtain⟨q,hq⟩: ∃q,q+1=mid+m:=⟨mid+m-1,by omega⟩
 have zq:(mid:Int)+(m:Int)-1=(q:Int):=by omega
 obtain⟨lo,hlo⟩: ∃lo,lo=if mid<m then mid+m-b else a:=⟨_,rfl⟩
 obtain⟨hi,hhi⟩: ∃hi,hi=if mid<m then mid else m:=⟨_,rfl⟩
 have HS:Hid (∀s,lo≤s→s≤hi→(s<hi→key (D.getD (q-s) 0)<key (D.getD s 0))→(lo<s→key (D.getD (s-1) 0)≤key (D.getD (q+1-s) 0))→ ∃A1 A2 B1 B2 en,SymAt key P A B Q D a m b mid s en A1 A2 B1 B2∧a≤s∧s≤m∧m≤en∧en≤b):=by
  intro s h1 h2 g1 g2
  obtain⟨A1,A2,B1,B2,e1,e2,e3,e4,e5,e6,e7,e8,e9,e10⟩:=part_two (Q:=Q) sA sB hP hA hB hmid hlo hhi h1 h2 (fun h=>by rw[←hD,show mid+m-1-s=q-s from by omega];exact g1 h) (fun h=>by rw[←hD,show mid+m-s=q+1-s from by omega];exact g2 h)
  exact⟨A1,A2,B1,B2,mid+m-s,⟨hD,hP,e1,e2,e3,hA,e4,hB,by omega,sA,sB,e9,e10⟩,e5,e6,e7,e8⟩
 have hl1:a≤lo:=by split at hlo<;>omega
 have hl2:lo≤hi:=by split at hlo<;>split at hhi<;>omega
 have hl3:hi≤m:=by split at hhi<;>omega
 have hl4:hi≤mid:=by split at hhi<;>omega
 have hl5:q+1≤lo+b:=by split at hlo<;>omega
 clear S hD hP hA hB sA sB hC ih
 have hcase:(mid<m∧(mid:Int)+(m:Int)-(b:Int)=(lo:Int)∧hi=mid)∨(¬mid<m∧lo=a∧hi=m):=by
  by_cases h:mid<m
  ·rw[if_pos h] at hlo hhi
   exact .inl ⟨h,by omega,hhi⟩
  ·rw[if_neg h] at hlo hhi
   exact .inr ⟨h,hlo,hhi⟩
 clear hlo hhi hmid
 go_enter Tryz.func214,Tryz.ntmps214
 rcases hcase with ⟨hmm,zlo,zhi⟩ | ⟨hmm,zlo,zhi⟩
 ·have hmmz:(mid:Int)<(m:Int):=by omega
  have zhi':Hid (hi=mid):=zhi
  clear zhi
  go_wp2
  go_loopg [20,21] (hi-lo) (fun g1 vi vj wr=> ∃(s r:Nat),vi=.int .i64 s∧vj=.int .i64 r∧lo≤s∧s≤r∧r≤hi∧r-s≤g1∧Aside (SL w0 blk off n D wr)∧Hid ((r<hi→key (D.getD (q-r) 0)<key (D.getD r 0))∧(lo<s→key (D.getD (s-1) 0)≤key (D.getD (q+1-s) 0))))
  case atStart=>exact⟨lo,hi,rfl,by rw[zhi'.out],Nat.le_refl _,hl2,Nat.le_refl _,Nat.le_refl _,S0,fun h=>absurd h (by omega),fun h=>absurd h (by omega)⟩
  case round=>
   clear S0
   obtain⟨s,r,rfl,rfl,hls,hsr,hrh,hg1,S1,H1⟩:=hrel
   by_cases hlt:s<r
   ·have hltz:(s:Int)<(r:Int):=by omega
    obtain⟨c,hc0⟩: ∃h,h=(s+r)/2:=⟨_,rfl⟩
    have hz:((s:Int)+(r:Int))/2=(c:Int):=by omega
    have hc1:s≤c:=by omega
    have hc2:c<r:=by omega
    obtain⟨t,ht⟩: ∃t,t+c=q:=⟨q-c,by omega⟩
    have zt:(q:Int)-(c:Int)=(t:Int):=by omega
    have zw:IntKind.i64.wrap ((q:Int)-(c:Int))=(t:Int):=by rw[IntKind.wrap_i64];omega
    obtain⟨x,hx⟩: ∃y,y=D.getD t 0:=⟨_,rfl⟩
    obtain⟨y,hy⟩: ∃y,y=D.getD c 0:=⟨_,rfl⟩
    have la:=S1.out.cl R t (by omega)
    have lb:=S1.out.cl R c (by omega)
    rw[←hx] at la
    rw[←hy] at lb
    have ba:(t:Int)<(n:Int):=by omega
    have bc:(c:Int)<(n:Int):=by omega
    have hc:=S1.out.cmp HC.out (x:=x) (y:=y) (by rw[hx];exact S1.out.at t (by omega)) (by rw[hy];exact S1.out.at c (by omega))
    have HY:Hid (x=D.getD (q-c) 0∧y=D.getD c 0):=⟨by rw[hx,show q-c=t from by omega],hy⟩
    have HT:Hid (t+c=q):=ht
    clear hc0 hx hy ht
    by_cases hk:key x<key y
    ·have hv:ag3 key x y<0:=cmpK_lt.2 hk
     have hd:decide (ag3 key x y<0)=true:=decide_eq_true hv
     have H2:Hid ((c<hi→key (D.getD (q-c) 0)<key (D.getD c 0))∧(lo<s→key (D.getD (s-1) 0)≤key (D.getD (q+1-s) 0))):=⟨fun _=>by rw[←HY.out.1,←HY.out.2];exact hk,H1.out.2⟩
     clear H1 hk
     go_wp2_with fail
     go_quiet (first | (go_at_fn g;refine Calls.quiet_of (hc _)))
     have S2:Aside (SL w0 blk off n D (wr.drewN nq)):=S1.out.drewN nq
     clear la lb hc S1
     generalize wr.drewN nq=w2 at S2⊢
     clear nq
     go_wp2
     go_roundg (c-s)
     case measure=>omega
     case rel=>exact⟨s,c,rfl,rfl,by omega,by omega,by omega,Nat.le_refl _,S2,H2⟩
    ·have hv: ¬ag3 key x y<0:=fun h=>hk (cmpK_lt.1 h)
     have hd:decide (ag3 key x y<0)=false:=decide_eq_false hv
     have H2:Hid ((r<hi→key (D.getD (q-r) 0)<key (D.getD r 0))∧(lo<c+1→key (D.getD (c+1-1) 0)≤key (D.getD (q+1-(c+1)) 0))):=⟨H1.out.1,fun _=>by rw[Nat.add_sub_cancel,show q+1-(c+1)=q-c from by omega,←HY.out.1,←HY.out.2];omega⟩
     clear H1 hk
     go_wp2_with fail
     go_quiet (first | (go_at_fn g;refine Calls.quiet_of (hc _)))
     have S2:Aside (SL w0 blk off n D (wr.drewN nq)):=S1.out.drewN nq
     clear la lb hc S1
     generalize wr.drewN nq=w2 at S2⊢
     clear nq
     go_wp2
     go_roundg (r-(c+1))
     case measure=>omega
     case rel=>exact⟨c+1,r,by first | rfl | go_num,rfl,by omega,by omega,by omega,Nat.le_refl _,S2,H2⟩
   ·have hltz: ¬(s:Int)<(r:Int):=by omega
    obtain rfl:s=r:=by omega
    obtain⟨A1,A2,B1,B2,en,HQ0,e1,e2,e3,e4⟩:=HS.out s hls hrh H1.out.1 H1.out.2
    have HQ:Aside (SymAt key P A B Q D a m b mid s en A1 A2 B1 B2):=HQ0
    have zen:(mid:Int)+(m:Int)-(s:Int)=(en:Int):=by have:=HQ0.en';omega
    have hsm:s≤mid:=by omega
    have hrot:s<m∧m<en→Calls Tryz.prog 240 #[.slice (some ⟨blk,off,none⟩) n cap,.int .i64 s,.int .i64 m,.int .i64 en,.func (.func g) #[] cb] wr fun e w'=>e=.returned (.tuple #[])∧SL w0 blk off n (P++(A1++B1)++(A2++B2++Q)) w':=fun h=>
     rotate_any R (by omega) (.func (.func g) #[] cb) cap s m en wr S1.out HQ0.rot (by rw[List.length_append,HQ0.hP];exact HQ0.lA) (HQ0.lens).1 HQ0.lB h.1 h.2
    have hstay: ¬(s<m∧m<en)→SL w0 blk off n (P++(A1++B1)++(A2++B2++Q)) wr:=fun h=>S1.out.to (HQ0.stay e2 e3 h)
    have HROT:Aside _:=hrot
    have HSTAY:Aside _:=hstay
    clear H1 HQ0 HS S1 hrot hstay hl1 hl2 hl3 hl4 hl5 hls hrh hg1 hltz
    go_upto_region 39 with fail
    go_cut [185] from 178 to 185 (fun c wx=>c=.bool (decide (s<m∧m<en))∧wx=wr)
    case first=>
     by_cases d1:s<m
     ·have d1z:(s:Int)<(m:Int):=by omega
      by_cases d2:m<en
      ·have d2z:(m:Int)<(en:Int):=by omega
       go_wp2_with fail
       go_meet
       case rel=>exact⟨by simp[d1,d2],rfl⟩
      ·have d2z: ¬(m:Int)<(en:Int):=by omega
       go_wp2_with fail
       go_meet
       case rel=>exact⟨by simp[d2],rfl⟩
     ·have d1z: ¬(s:Int)<(m:Int):=by omega
      go_wp2_with fail
      go_meet
      case rel=>exact⟨by simp[d1],rfl⟩
    case rest=>
     obtain⟨rfl,rfl⟩:=hcut
     go_upto_if 185 with fail
     go_cut [191] from 185 to 191 (fun _ wx=>Aside (SL w0 blk off n (P++(A1++B1)++(A2++B2++Q)) wx))
     case first=>
      by_cases d:s<m∧m<en
      ·have dz:decide (s<m∧m<en)=true:=decide_eq_true d
       have hrot:=HROT.out d
       go_wp2_with fail
       refine hrot.mono ?_
       rintro e w2 ⟨rfl,S2⟩
       go_wp2_with fail
       go_meet
       case rel=>exact S2
      ·have dz:decide (s<m∧m<en)=false:=decide_eq_false d
       go_wp2_with fail
       go_meet
       case rel=>exact HSTAY.out d
     case rest=>
      clear HROT HSTAY
      have hl:a<s∧s<mid→Calls Tryz.prog 214 #[.slice (some ⟨blk,off,none⟩) n cap,.int .i64 a,.int .i64 s,.int .i64 mid,.func (.func g) #[] cb] wc fun e w'=>acn key w0 blk off n P (A1++B1) (A2++B2++Q) e w':=fun h=>by
       have q:=HQ.out
       refine IH.out P A1 B1 (A2++B2++Q) _ cap a s mid wc (by omega) hcut.out (by simp) q.hP q.lA q.lens.2.1 h.1 h.2 ?_ ?_
       ·have:=q.sA;rw[q.hA] at this;exact this.left
       ·have:=q.sB;rw[q.hB] at this;exact this.left
      have hl': ¬(a<s∧s<mid)→LeftPost key w0 blk off n P (A1++B1) (A2++B2++Q) wc:=fun h=>⟨A1++B1,hcut.out,HQ.out.left e1 e3 h,AlikeK.refl _,rfl⟩
      have hl2: ∀C w',SL w0 blk off n (P++C++(A2++B2++Q)) w'→C.length=(A1++B1).length:=fun C w' h=>by
       have h1:=h.len
       have h2:=hcut.out.len
       simp only[List.length_append] at h1 h2⊢
       omega
      have HL:Aside _:=hl
      have HL':Aside _:=hl'
      have HL2:Aside _:=hl2
      clear hl hl' hl2 hcut
      generalize wc=wd at HL HL'⊢
      go_upto_region 41 with fail
      go_cut [199] from 192 to 199 (fun c wx=>c=.bool (decide (a<s∧s<mid))∧wx=wd)
      case first=>
       by_cases d1:a<s
       ·have d1z:(a:Int)<(s:Int):=by omega
        by_cases d2:s<mid
        ·have d2z:(s:Int)<(mid:Int):=by omega
         go_wp2_with fail
         go_meet
         case rel=>exact⟨by simp[d1,d2],rfl⟩
        ·have d2z: ¬(s:Int)<(mid:Int):=by omega
         go_wp2_with fail
         go_meet
         case rel=>exact⟨by simp[d2],rfl⟩
       ·have d1z: ¬(a:Int)<(s:Int):=by omega
        go_wp2_with fail
        go_meet
        case rel=>exact⟨by simp[d1],rfl⟩
      case rest=>
       obtain⟨rfl,rfl⟩:=hcut
       go_upto_if 199 with fail
       go_cut [205] from 199 to 205 (fun _ wx=>Aside (LeftPost key w0 blk off n P (A1++B1) (A2++B2++Q) wx))
       case first=>
        by_cases d:a<s∧s<mid
        ·have dz:decide (a<s∧s<mid)=true:=decide_eq_true d
         have hrot:=HL.out d
         go_wp2_with fail
         refine hrot.mono ?_
         rintro e w2 ⟨rfl,C,S2,g1,g2⟩
         have hcl:=HL2.out C w2 S2
         go_wp2_with fail
         go_meet
         case rel=>exact⟨C,S2,g1,g2,hcl⟩
        ·have dz:decide (a<s∧s<mid)=false:=decide_eq_false d
         go_wp2_with fail
         go_meet
         case rel=>exact HL'.out d
       case rest=>
        clear HL HL' HL2
        obtain⟨C1,SC,sC,aC,lC⟩:=hcut.out
        have hlen:(P++C1).length=mid:=by
         have q:=HQ.out
         have:=q.lens
         have:=q.hP
         have:=q.lA
         rw[List.length_append] at lC⊢
         omega
        have hr:mid<en∧en<b→Calls Tryz.prog 214 #[.slice (some ⟨blk,off,none⟩) n cap,.int .i64 mid,.int .i64 en,.int .i64 b,.func (.func g) #[] cb] wc fun e w'=>acn key w0 blk off n (P++C1) (A2++B2) Q e w':=fun h=>by
         have q:=HQ.out
         refine IH.out (P++C1) A2 B2 Q _ cap mid en b wc (by omega) SC (by simp) hlen q.lens.2.2.1 q.lens.2.2.2 h.1 h.2 ?_ ?_
         ·have:=q.sA;rw[q.hA] at this;exact this.right
         ·have:=q.sB;rw[q.hB] at this;exact this.right
        have hfin: ∀C2 w',SL w0 blk off n ((P++C1)++C2++Q) w'→SortedK key C2→AlikeK key (A2++B2) C2→acn key w0 blk off n P (A++B) Q (.returned (.tuple #[])) w':=fun C2 w' h g1 g2=>by
         have q:=HQ.out
         have m2:=merge_two (A1:=A1) (A2:=A2) (B1:=B1) (B2:=B2) (C1:=C1) (C2:=C2) (by rw[←q.hA];exact q.sA) (by rw[←q.hB];exact q.sB) q.lo q.hi sC aC g1 g2
         rw[←q.hA,←q.hB] at m2
         exact⟨rfl,C1++C2,h.to (by simp),m2.1,m2.2⟩
        have hr': ¬(mid<en∧en<b)→acn key w0 blk off n P (A++B) Q (.returned (.tuple #[])) wc:=fun h=>hfin (A2++B2) wc (SC.to (by simp)) (HQ.out.right e2 e4 h) (AlikeK.refl _)
        have HR:Aside _:=hr
        have HR':Aside _:=hr'
        have HF:Aside _:=hfin
        clear hr hr' hfin hlen lC aC sC SC hcut HQ
        generalize wc=wd at HR HR'⊢
        by_cases d1:mid<en
        ·have d1z:(mid:Int)<(en:Int):=by omega
         by_cases d2:en<b
         ·have d2z:(en:Int)<(b:Int):=by omega
          have hrot:=HR.out ⟨d1,d2⟩
          go_wp2_with fail
          refine hrot.mono ?_
          rintro e w2 ⟨rfl,C,S2,g1,g2⟩
          have hfin:=HF.out C w2 S2 g1 g2
          go_wp2
          go_end0
          exact hfin
         ·have d2z: ¬(en:Int)<(b:Int):=by omega
          have hfin:=HR'.out (fun h=>d2 h.2)
          go_wp2
          go_end0
          exact hfin
        ·have d1z: ¬(mid:Int)<(en:Int):=by omega
         have hfin:=HR'.out (fun h=>d1 h.1)
         go_wp2
         go_end0
         exact hfin
 ·have hmmz: ¬(mid:Int)<(m:Int):=by omega
  have zhi':Hid (hi=m):=zhi
  have zlo':Hid (lo=a):=zlo
  clear zhi zlo
  go_wp2
  go_loopg [20,21] (hi-lo) (fun g1 vi vj wr=> ∃(s r:Nat),vi=.int .i64 s∧vj=.int .i64 r∧lo≤s∧s≤r∧r≤hi∧r-s≤g1∧Aside (SL w0 blk off n D wr)∧Hid ((r<hi→key (D.getD (q-r) 0)<key (D.getD r 0))∧(lo<s→key (D.getD (s-1) 0)≤key (D.getD (q+1-s) 0))))
  case atStart=>exact⟨lo,hi,by rw[zlo'.out],by rw[zhi'.out],Nat.le_refl _,hl2,Nat.le_refl _,Nat.le_refl _,S0,fun h=>absurd h (by omega),fun h=>absurd h (by omega)⟩
  case round=>
   clear S0
   obtain⟨s,r,rfl,rfl,hls,hsr,hrh,hg1,S1,H1⟩:=hrel
   by_cases hlt:s<r
   ·have hltz:(s:Int)<(r:Int):=by omega
    obtain⟨c,hc0⟩: ∃h,h=(s+r)/2:=⟨_,rfl⟩
    have hz:((s:Int)+(r:Int))/2=(c:Int):=by omega
    have hc1:s≤c:=by omega
    have hc2:c<r:=by omega
    obtain⟨t,ht⟩: ∃t,t+c=q:=⟨q-c,by omega⟩
    have zt:(q:Int)-(c:Int)=(t:Int):=by omega
    have zw:IntKind.i64.wrap ((q:Int)-(c:Int))=(t:Int):=by rw[IntKind.wrap_i64];omega
    obtain⟨x,hx⟩: ∃y,y=D.getD t 0:=⟨_,rfl⟩
    obtain⟨y,hy⟩: ∃y,y=D.getD c 0:=⟨_,rfl⟩
    have la:=S1.out.cl R t (by omega)
    have lb:=S1.out.cl R c (by omega)
    rw[←hx] at la
    rw[←hy] at lb
    have ba:(t:Int)<(n:Int):=by omega
    have bc:(c:Int)<(n:Int):=by omega
    have hc:=S1.out.cmp HC.out (x:=x) (y:=y) (by rw[hx];exact S1.out.at t (by omega)) (by rw[hy];exact S1.out.at c (by omega))
    have HY:Hid (x=D.getD (q-c) 0∧y=D.getD c 0):=⟨by rw[hx,show q-c=t from by omega],hy⟩
    have HT:Hid (t+c=q):=ht
    clear hc0 hx hy ht
    by_cases hk:key x<key y
    ·have hv:ag3 key x y<0:=cmpK_lt.2 hk
     have hd:decide (ag3 key x y<0)=true:=decide_eq_true hv
     have H2:Hid ((c<hi→key (D.getD (q-c) 0)<key (D.getD c 0))∧(lo<s→key (D.getD (s-1) 0)≤key (D.getD (q+1-s) 0))):=⟨fun _=>by rw[←HY.out.1,←HY.out.2];exact hk,H1.out.2⟩
     clear H1 hk
     go_wp2_with fail
     go_quiet (first | (go_at_fn g;refine Calls.quiet_of (hc _)))
     have S2:Aside (SL w0 blk off n D (wr.drewN nq)):=S1.out.drewN nq
     clear la lb hc S1
     generalize wr.drewN nq=w2 at S2⊢
     clear nq
     go_wp2
     go_roundg (c-s)
     case measure=>omega
     case rel=>exact⟨s,c,rfl,rfl,by omega,by omega,by omega,Nat.le_refl _,S2,H2⟩
    ·have hv: ¬ag3 key x y<0:=fun h=>hk (cmpK_lt.1 h)
     have hd:decide (ag3 key x y<0)=false:=decide_eq_false hv
     have H2:Hid ((r<hi→key (D.getD (q-r) 0)<key (D.getD r 0))∧(lo<c+1→key (D.getD (c+1-1) 0)≤key (D.getD (q+1-(c+1)) 0))):=⟨H1.out.1,fun _=>by rw[Nat.add_sub_cancel,show q+1-(c+1)=q-c from by omega,←HY.out.1,←HY.out.2];omega⟩
     clear H1 hk
     go_wp2_with fail
     go_quiet (first | (go_at_fn g;refine Calls.quiet_of (hc _)))
     have S2:Aside (SL w0 blk off n D (wr.drewN nq)):=S1.out.drewN nq
     clear la lb hc S1
     generalize wr.drewN nq=w2 at S2⊢
     clear nq
     go_wp2
     go_roundg (r-(c+1))
     case measure=>omega
     case rel=>exact⟨c+1,r,by first | rfl | go_num,rfl,by omega,by omega,by omega,Nat.le_refl _,S2,H2⟩
   ·have hltz: ¬(s:Int)<(r:Int):=by omega
    obtain rfl:s=r:=by omega
    obtain⟨A1,A2,B1,B2,en,HQ0,e1,e2,e3,e4⟩:=HS.out s hls hrh H1.out.1 H1.out.2
    have HQ:Aside (SymAt key P A B Q D a m b mid s en A1 A2 B1 B2):=HQ0
    have zen:(mid:Int)+(m:Int)-(s:Int)=(en:Int):=by have:=HQ0.en';omega
    have hsm:s≤mid:=by omega
    have hrot:s<m∧m<en→Calls Tryz.prog 240 #[.slice (some ⟨blk,off,none⟩) n cap,.int .i64 s,.int .i64 m,.int .i64 en,.func (.func g) #[] cb] wr fun e w'=>e=.returned (.tuple #[])∧SL w0 blk off n (P++(A1++B1)++(A2++B2++Q)) w':=fun h=>
     rotate_any R (by omega) (.func (.func g) #[] cb) cap s m en wr S1.out HQ0.rot (by rw[List.length_append,HQ0.hP];exact HQ0.lA) (HQ0.lens).1 HQ0.lB h.1 h.2
    have hstay: ¬(s<m∧m<en)→SL w0 blk off n (P++(A1++B1)++(A2++B2++Q)) wr:=fun h=>S1.out.to (HQ0.stay e2 e3 h)
    have HROT:Aside _:=hrot
    have HSTAY:Aside _:=hstay
    clear H1 HQ0 HS S1 hrot hstay hl1 hl2 hl3 hl4 hl5 hls hrh hg1 hltz
    go_upto_region 39 with fail
    go_cut [185] from 178 to 185 (fun c wx=>c=.bool (decide (s<m∧m<en))∧wx=wr)
    case first=>
     by_cases d1:s<m
     ·have d1z:(s:Int)<(m:Int):=by omega
      by_cases d2:m<en
      ·have d2z:(m:Int)<(en:Int):=by omega
       go_wp2_with fail
       go_meet
       case rel=>exact⟨by simp[d1,d2],rfl⟩
      ·have d2z: ¬(m:Int)<(en:Int):=by omega
       go_wp2_with fail
       go_meet
       case rel=>exact⟨by simp[d2],rfl⟩
     ·have d1z: ¬(s:Int)<(m:Int):=by omega
      go_wp2_with fail
      go_meet
      case rel=>exact⟨by simp[d1],rfl⟩
    case rest=>
     obtain⟨rfl,rfl⟩:=hcut
     go_upto_if 185 with fail
     go_cut [191] from 185 to 191 (fun _ wx=>Aside (SL w0 blk off n (P++(A1++B1)++(A2++B2++Q)) wx))
     case first=>
      by_cases d:s<m∧m<en
      ·have dz:decide (s<m∧m<en)=true:=decide_eq_true d
       have hrot:=HROT.out d
       go_wp2_with fail
       refine hrot.mono ?_
       rintro e w2 ⟨rfl,S2⟩
       go_wp2_with fail
       go_meet
       case rel=>exact S2
      ·have dz:decide (s<m∧m<en)=false:=decide_eq_false d
       go_wp2_with fail
       go_meet
       case rel=>exact HSTAY.out d
     case rest=>
      clear HROT HSTAY
      have hl:a<s∧s<mid→Calls Tryz.prog 214 #[.slice (some ⟨blk,off,none⟩) n cap,.int .i64 a,.int .i64 s,.int .i64 mid,.func (.func g) #[] cb] wc fun e w'=>acn key w0 blk off n P (A1++B1) (A2++B2++Q) e w':=fun h=>by
       have q:=HQ.out
       refine IH.out P A1 B1 (A2++B2++Q) _ cap a s mid wc (by omega) hcut.out (by simp) q.hP q.lA q.lens.2.1 h.1 h.2 ?_ ?_
       ·have:=q.sA;rw[q.hA] at this;exact this.left
       ·have:=q.sB;rw[q.hB] at this;exact this.left
      have hl': ¬(a<s∧s<mid)→LeftPost key w0 blk off n P (A1++B1) (A2++B2++Q) wc:=fun h=>⟨A1++B1,hcut.out,HQ.out.left e1 e3 h,AlikeK.refl _,rfl⟩
      have hl2: ∀C w',SL w0 blk off n (P++C++(A2++B2++Q)) w'→C.length=(A1++B1).length:=fun C w' h=>by
       have h1:=h.len
       have h2:=hcut.out.len
       simp only[List.length_append] at h1 h2⊢
       omega
      have HL:Aside _:=hl
      have HL':Aside _:=hl'
      have HL2:Aside _:=hl2
      clear hl hl' hl2 hcut
      generalize wc=wd at HL HL'⊢
      go_upto_region 41 with fail
      go_cut [199] from 192 to 199 (fun c wx=>c=.bool (decide (a<s∧s<mid))∧wx=wd)
      case first=>
       by_cases d1:a<s
       ·have d1z:(a:Int)<(s:Int):=by omega
        by_cases d2:s<mid
        ·have d2z:(s:Int)<(mid:Int):=by omega
         go_wp2_with fail
         go_meet
         case rel=>exact⟨by simp[d1,d2],rfl⟩
        ·have d2z: ¬(s:Int)<(mid:Int):=by omega
         go_wp2_with fail
         go_meet
         case rel=>exact⟨by simp[d2],rfl⟩
       ·have d1z: ¬(a:Int)<(s:Int):=by omega
        go_wp2_with fail
        go_meet
        case rel=>exact⟨by simp[d1],rfl⟩
      case rest=>
       obtain⟨rfl,rfl⟩:=hcut
       go_upto_if 199 with fail
       go_cut [205] from 199 to 205 (fun _ wx=>Aside (LeftPost key w0 blk off n P (A1++B1) (A2++B2++Q) wx))
       case first=>
        by_cases d:a<s∧s<mid
        ·have dz:decide (a<s∧s<mid)=true:=decide_eq_true d
         have hrot:=HL.out d
         go_wp2_with fail
         refine hrot.mono ?_
         rintro e w2 ⟨rfl,C,S2,g1,g2⟩
         have hcl:=HL2.out C w2 S2
         go_wp2_with fail
         go_meet
         case rel=>exact⟨C,S2,g1,g2,hcl⟩
        ·have dz:decide (a<s∧s<mid)=false:=decide_eq_false d
         go_wp2_with fail
         go_meet
         case rel=>exact HL'.out d
       case rest=>
        clear HL HL' HL2
        obtain⟨C1,SC,sC,aC,lC⟩:=hcut.out
        have hlen:(P++C1).length=mid:=by
         have q:=HQ.out
         have:=q.lens
         have:=q.hP
         have:=q.lA
         rw[List.length_append] at lC⊢
         omega
        have hr:mid<en∧en<b→Calls Tryz.prog 214 #[.slice (some ⟨blk,off,none⟩) n cap,.int .i64 mid,.int .i64 en,.int .i64 b,.func (.func g) #[] cb] wc fun e w'=>acn key w0 blk off n (P++C1) (A2++B2) Q e w':=fun h=>by
         have q:=HQ.out
         refine IH.out (P++C1) A2 B2 Q _ cap mid en b wc (by omega) SC (by simp) hlen q.lens.2.2.1 q.lens.2.2.2 h.1 h.2 ?_ ?_
         ·have:=q.sA;rw[q.hA] at this;exact this.right
         ·have:=q.sB;rw[q.hB] at this;exact this.right
        have hfin: ∀C2 w',SL w0 blk off n ((P++C1)++C2++Q) w'→SortedK key C2→AlikeK key (A2++B2) C2→acn key w0 blk off n P (A++B) Q (.returned (.tuple #[])) w':=fun C2 w' h g1 g2=>by
         have q:=HQ.out
         have m2:=merge_two (A1:=A1) (A2:=A2) (B1:=B1) (B2:=B2) (C1:=C1) (C2:=C2) (by rw[←q.hA];exact q.sA) (by rw[←q.hB];exact q.sB) q.lo q.hi sC aC g1 g2
         rw[←q.hA,←q.hB] at m2
         exact⟨rfl,C1++C2,h.to (by simp),m2.1,m2.2⟩
        have hr': ¬(mid<en∧en<b)→acn key w0 blk off n P (A++B) Q (.returned (.tuple #[])) wc:=fun h=>hfin (A2++B2) wc (SC.to (by simp)) (HQ.out.right e2 e4 h) (AlikeK.refl _)
        have HR:Aside _:=hr
        have HR':Aside _:=hr'
        have HF:Aside _:=hfin
        clear hr hr' hfin hlen lC aC sC SC hcut HQ
        generalize wc=wd at HR HR'⊢
        by_cases d1:mid<en
        ·have d1z:(mid:Int)<(en:Int):=by omega
         by_cases d2:en<b
         ·have d2z:(en:Int)<(b:Int):=by omega
          have hrot:=HR.out ⟨d1,d2⟩
          go_wp2_with fail
          refine hrot.mono ?_
          rintro e w2 ⟨rfl,C,S2,g1,g2⟩
          have hfin:=HF.out C w2 S2 g1 g2
          go_wp2
          go_end0
          exact hfin
         ·have d2z: ¬(en:Int)<(b:Int):=by omega
          have hfin:=HR'.out (fun h=>d2 h.2)
          go_wp2
          go_end0
          exact hfin
        ·have d1z: ¬(mid:Int)<(en:Int):=by omega
         have hfin:=HR'.out (fun h=>d1 h.1)
         go_wp2
         go_end0
         exact hfin
theorem symMerge_any {w0:World}{blk off n:Nat}(R:RowN w0 blk off n)(hn:n<2305843009213693952){g:Nat}{cb:Array Value}{key:Int→Int}(eg: ∀args w,(callFunc g args).run Tryz.prog w=.ok (.enter g args) w)(hC:CmpOk g cb key w0 blk off n): ∀N,SymSays key w0 blk off n g cb N:=by
 intro N
 induction N with
 | zero=>intro P A B Q D cap a m b w hN _ _ _ _ _ h1 h2;omega
 | succ N ih=>exact symMerge_step R hn eg hC N ih
end Go.Proofs.YtpfkoldfbecdlaaGreatDoor
