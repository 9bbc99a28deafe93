/- slices.symMergeCmpFunc at ints (a contract; nothing is claimed here). -/
import Derived.Test.YtfhpgmlfgjfknaaGreatDoorJ24
namespace Go.Vf
def UpAt (P B1 R:List Int)(x:Int)(a k:Nat)(D:List Int):Prop:=D=P++B1.take (k-a)++[x]++B1.drop (k-a)++R
theorem UpAt.step {P B1 R D:List Int}{x:Int}{a k:Nat}(h:UpAt P B1 R x a k D)(ha:P.length=a)(hk:a≤k)(hb:k-a<B1.length):UpAt P B1 R x a (k+1) (aez D k (k+1)):=by
 unfold UpAt at h⊢
 have e1:=List.drop_eq_getElem_cons hb
 have e2:=List.take_append_getElem hb
 rw[show k+1-a=k-a+1 from by omega,←e2]
 generalize B1.drop (k-a+1)=Y at e1⊢
 have e:D=(P++B1.take (k-a))++[x]++[]++[B1[k-a]]++(Y++R):=by rw[h,e1];simp
 rw[e,aip (by rw[List.length_append,List.length_take];omega) (by rw[List.length_append,List.length_take];simp;omega)]
 simp
def DownAt (P A2 R:List Int)(y:Int)(i k:Nat)(D:List Int):Prop:=D=P++A2.take (k-i)++[y]++A2.drop (k-i)++R
theorem DownAt.step {P A2 R D:List Int}{y:Int}{i k:Nat}(h:DownAt P A2 R y i k D)(hi:P.length=i)(hk:i<k)(hb:k-i≤A2.length):DownAt P A2 R y i (k-1) (aez D k (k-1)):=by
 unfold DownAt at h⊢
 have hb':k-1-i<A2.length:=by omega
 have e1:=List.drop_eq_getElem_cons hb'
 have e2:=List.take_append_getElem hb'
 rw[show k-i=k-1-i+1 from by omega,←e2] at h
 rw[e1]
 generalize A2.drop (k-1-i+1)=Y at h⊢
 have e:D=(P++A2.take (k-1-i))++[A2[k-1-i]]++[]++[y]++(Y++R):=by rw[h];simp
 rw[ana (by omega),e,aip (by rw[List.length_append,List.length_take];omega) (by rw[List.length_append,List.length_take];simp;omega)]
 simp
end Go.Vf
namespace Go.Proofs.YtfhpgmlfgjfknaaGreatDoor
open Go.Shelf Go.RowKit Go.Lib Go.Sort Go.Vf
set_option maxHeartbeats 8000000 in
set_option maxRecDepth 100000 in
theorem awf {w0:World}{blk off n:Nat}(R:RowN w0 blk off n)(hn:n<4611686018427387904){g:Nat}{cb:Array Value}{key:Int→Int}(eg: ∀args w,(callFunc g args).run Tryz.prog w=.ok (.enter g args) w)(hC:apz g cb key w0 blk off n){P B Q D:List Int}{x:Int}(cap a m b:Nat)(w:World)
  (S:SL w0 blk off n D w) (hD:D=P++[x]++B++Q) (ha:P.length=a) (hm:a+1=m) (hb:m+B.length=b) (hB:SortedK key B):
  Calls Tryz.prog 118 #[.slice (some ⟨blk,off,none⟩) n cap,.int .i64 a,.int .i64 m,.int .i64 b,.func (.func g) #[] cb] w fun e w'=>aco key w0 blk off n P ([x]++B) Q e w':=by
 have hle:b≤n:=by rw[←S.len,hD];simp only[List.length_append];simp;omega
 have hmb:m≤b:=by omega
 have hax:D.getD a 0=x:=by
  have e:D=P++[x]++(B++Q):=by rw[hD];simp
  rw[e,acy (by omega) (by simp;omega),ha,Nat.sub_self];rfl
 have S0:Aside (SL w0 blk off n D w):=S
 have HD:Hid (D=P++[x]++B++Q):=hD
 have HA:Hid (P.length=a):=ha
 have HB:Hid (m+B.length=b):=hb
 have HS:Hid (SortedK key B):=hB
 have HC:Aside _:=hC
 have HX:Hid (D.getD a 0=x):=hax
 have HM:Hid (a+1=m):=hm
 have hmz:(m:Int)-(a:Int)=1:=by omega
 have hIx:I64 x:=by rw[←hax];exact S.at a (by omega)
 clear S hD ha hb hB hC hax
 go_enter Tryz.func118,Tryz.ntmps118
 go_wp2
 go_loopg [10,11] (b-m) (fun g1 vi vj wr=> ∃(i j:Nat),vi=.int .i64 i∧vj=.int .i64 j∧m≤i∧i≤j∧j≤b∧j-i≤g1∧Aside (SL w0 blk off n D wr)∧Hid ((m<i→key (D.getD (i-1) 0)<key x)∧(j<b→key x≤key (D.getD j 0))))
 case atStart=>exact⟨m,b,rfl,rfl,by omega,by omega,by omega,by omega,S0,fun h=>absurd h (by omega),fun h=>absurd h (by omega)⟩
 case round=>
  clear S0
  obtain⟨i,j,rfl,rfl,hmi,hij,hjb,hg1,S1,H1⟩:=hrel
  by_cases hlt:i<j
  ·have hltz:(i:Int)<(j:Int):=by omega
   obtain⟨h,hh⟩: ∃h,h=(i+j)/2:=⟨_,rfl⟩
   have hz:((i:Int)+(j:Int))/2=(h:Int):=by omega
   have hh1:i≤h:=by omega
   have hh2:h<j:=by omega
   obtain⟨y,hy⟩: ∃y,y=D.getD h 0:=⟨_,rfl⟩
   have la:=S1.out.cl R h (by omega)
   have lb:=S1.out.cl R a (by omega)
   rw[←hy] at la
   rw[HX.out] at lb
   have ba:(h:Int)<(n:Int):=by omega
   have bc:(a:Int)<(n:Int):=by omega
   have hc:=S1.out.cmp HC.out (x:=y) (y:=x) (by rw[hy];exact S1.out.at h (by omega)) hIx
   have HY:Hid (y=D.getD h 0):=hy
   clear hh hy
   by_cases hk:key y<key x
   ·have hv:ahu key y x<0:=cmpK_lt.2 hk
    have hd:decide (ahu key y x<0)=true:=decide_eq_true hv
    have H2:Hid ((m<h+1→key (D.getD (h+1-1) 0)<key x)∧(j<b→key x≤key (D.getD j 0))):=⟨fun _=>by rw[Nat.add_sub_cancel,←HY.out];exact hk,H1.out.2⟩
    clear H1 hk
    go_wp2_with fail
    go_quiet (first | (go_at_fn g;refine Calls.quiet_of (hc _)))
    have S2:Aside (SL w0 blk off n D (wr.drewN nq)):=S1.out.drewN nq
    clear la lb hc S1
    generalize wr.drewN nq=w2 at S2⊢
    clear nq
    go_wp2
    go_roundg (j-(h+1))
    case measure=>omega
    case rel=>exact⟨h+1,j,by first | rfl | go_num,rfl,by omega,by omega,by omega,Nat.le_refl _,S2,H2⟩
   ·have hv: ¬ahu key y x<0:=fun h=>hk (cmpK_lt.1 h)
    have hd:decide (ahu key y x<0)=false:=decide_eq_false hv
    have H2:Hid ((m<i→key (D.getD (i-1) 0)<key x)∧(h<b→key x≤key (D.getD h 0))):=⟨H1.out.1,fun _=>by rw[←HY.out];omega⟩
    clear H1 hk
    go_wp2_with fail
    go_quiet (first | (go_at_fn g;refine Calls.quiet_of (hc _)))
    have S2:Aside (SL w0 blk off n D (wr.drewN nq)):=S1.out.drewN nq
    clear la lb hc S1
    generalize wr.drewN nq=w2 at S2⊢
    clear nq
    go_wp2
    go_roundg (h-i)
    case measure=>omega
    case rel=>exact⟨i,h,rfl,rfl,by omega,by omega,by omega,Nat.le_refl _,S2,H2⟩
  ·have hltz: ¬(i:Int)<(j:Int):=by omega
   obtain rfl:i=j:=by omega
   have hsplit:=a3a (P:=P++[x]) (B:=B) (Q:=Q) (x:=x) (i:=i) HS.out (by simp;have:=HA.out;have:=HM.out;omega) (by simp;have:=HA.out;have:=HM.out;have:=HB.out;omega)
    (fun h=>by rw[←HD.out];exact H1.out.1 (by simp at h;have:=HA.out;have:=HM.out;omega)) (fun h=>by rw[←HD.out];exact H1.out.2 (by simp at h;have:=HA.out;have:=HM.out;have:=HB.out;omega))
   have hPx:(P++[x]).length=m:=by simp;have:=HA.out;have:=HM.out;omega
   rw[hPx] at hsplit
   have hmo:=azr (key:=key) (x:=x) (B1:=B.take (i-m)) (B2:=B.drop (i-m)) (by rw[List.take_append_drop];exact HS.out) hsplit.1 hsplit.2
   rw[List.take_append_drop] at hmo
   have H2:Hid (SortedK key (B.take (i-m)++[x]++B.drop (i-m))∧AlikeK key ([x]++B) (B.take (i-m)++[x]++B.drop (i-m))):=hmo
   have H3:Hid (UpAt P (B.take (i-m)) (B.drop (i-m)++Q) x a a D):=by
    show _=_
    rw[HD.out,Nat.sub_self,List.take_zero,List.drop_zero]
    have e:=(List.take_append_drop (i-m) B).symm
    generalize B.take (i-m)=B1 at e⊢
    generalize B.drop (i-m)=B2 at e⊢
    rw[e];simp
   have HL:Hid ((B.take (i-m)).length=i-m):=by show _=_;rw[List.length_take];have:=HB.out;omega
   generalize B.take (i-m)=B1 at H2 H3 HL
   generalize B.drop (i-m)=B2 at H2 H3
   clear H1 hsplit hmo hPx hltz
   obtain⟨ip,hip⟩: ∃q,q+1=i:=⟨i-1,by omega⟩
   have zip:(i:Int)-1=(ip:Int):=by omega
   go_wp2
   go_loopg [13] (ip-a) (fun g2 vk wr2=> ∃(k:Nat) (Dk:List Int),vk=.int .i64 k∧a≤k∧k≤ip∧ip-k≤g2∧Aside (SL w0 blk off n Dk wr2)∧Hid (UpAt P B1 (B2++Q) x a k Dk))
   case atStart=>exact⟨a,D,rfl,Nat.le_refl _,by omega,Nat.le_refl _,S1,H3⟩
   case round=>
    clear S1 H3
    obtain⟨k,Dk,rfl,hak,hki,hg2,SK,HK⟩:=hrel
    by_cases hlt2:k<ip
    ·have hlt2z:(k:Int)<(ip:Int):=by omega
     have hlt3z:(k:Int)<(i:Int)-1:=by omega
     go_wp2_with fail
     obtain⟨iN,hiN⟩: ∃q,q=k:=⟨_,rfl⟩
     obtain⟨jN,hjN⟩: ∃q,q=k+1:=⟨_,rfl⟩
     have ea:((k:Int)).toNat=iN:=by omega
     have pa:(0:Int)≤(k:Int):=by omega
     have ba:(k:Int)<(n:Int):=by omega
     have ec:((k:Int)+1).toNat=jN:=by omega
     have pc:(0:Int)≤(k:Int)+1:=by omega
     have bc:(k:Int)+1<(n:Int):=by omega
     have rc:IntKind.i64.wrap ((k:Int)+1)=(k:Int)+1:=by rw[IntKind.wrap_i64];omega
     obtain⟨u,hu⟩: ∃u,u=Dk.getD k 0:=⟨_,rfl⟩
     obtain⟨v,hv⟩: ∃v,v=Dk.getD (k+1) 0:=⟨_,rfl⟩
     have S3:Aside (SL w0 blk off n (aez Dk k (k+1)) ((wr.setCell ⟨blk,off+iN,none⟩ (.int .i64 v)).setCell ⟨blk,off+jN,none⟩ (.int .i64 u)).drew):=by
      rw[hu,hv,hiN,hjN];exact SK.out.swapped R k (k+1) (by omega) (by omega)
     have ca:wr.cell? ⟨blk,off+iN,none⟩=some (.int .i64 u):=by rw[hu,hiN];exact SK.out.c1 R k (by omega)
     have cb':wr.cell? ⟨blk,off+jN,none⟩=some (.int .i64 v):=by rw[hv,hjN];exact SK.out.c1 R (k+1) (by omega)
     have fa:wr.frozen? ⟨blk,off+iN,none⟩=false:=by rw[hiN];exact SK.out.f1 R k (by omega)
     have fb:wr.frozen? ⟨blk,off+jN,none⟩=false:=by rw[hjN];exact SK.out.f1 R (k+1) (by omega)
     obtain⟨c,cc⟩: ∃c,(wr.setCell ⟨blk,off+iN,none⟩ (.int .i64 v)).cell? ⟨blk,off+jN,none⟩=some c:=by rw[hiN,hjN];exact SK.out.c2 R k (k+1) (by omega) (by omega) (.int .i64 v)
     have HG:Hid (UpAt P B1 (B2++Q) x a (k+1) (aez Dk k (k+1))):=HK.out.step HA.out hak (by have:=HL.out;have:=HM.out;omega)
     clear SK HK hu hv hiN hjN
     go_wp2_with fail
     go_region
     clear ca cb' cc fa fb
     generalize ((wr.setCell ⟨blk,off+iN,none⟩ (.int .i64 v)).setCell ⟨blk,off+jN,none⟩ (.int .i64 u)).drew=w3 at S3⊢
     clear ea ec
     go_wp2
     go_roundg (ip-(k+1))
     case measure=>omega
     case rel=>exact⟨k+1,_,by first | rfl | go_num,by omega,by omega,Nat.le_refl _,S3,HG⟩
    ·have hlt2z: ¬(k:Int)<(ip:Int):=by omega
     have hlt3z: ¬(k:Int)<(i:Int)-1:=by omega
     go_wp2
     go_end0
     refine⟨rfl,B1++[x]++B2,SK.out.to ?_,H2.out.1,H2.out.2⟩
     have e:=HK.out
     unfold UpAt at e
     have hl:=HL.out
     have hm:=HM.out
     rw[List.take_of_length_le (by omega),List.drop_of_length_le (by omega)] at e
     rw[e];simp
set_option maxHeartbeats 8000000 in
set_option maxRecDepth 100000 in
theorem asm {w0:World}{blk off n:Nat}(R:RowN w0 blk off n)(hn:n<4611686018427387904){g:Nat}{cb:Array Value}{key:Int→Int}(eg: ∀args w,(callFunc g args).run Tryz.prog w=.ok (.enter g args) w)(hC:apz g cb key w0 blk off n){P A Q D:List Int}{x:Int}(cap a m b:Nat)(w:World)
  (S:SL w0 blk off n D w) (hD:D=P++A++[x]++Q) (ha:P.length=a) (hm:a+A.length=m) (hb:m+1=b) (ham:a+1<m) (hA:SortedK key A):
  Calls Tryz.prog 118 #[.slice (some ⟨blk,off,none⟩) n cap,.int .i64 a,.int .i64 m,.int .i64 b,.func (.func g) #[] cb] w fun e w'=>aco key w0 blk off n P (A++[x]) Q e w':=by
 have hle:b≤n:=by rw[←S.len,hD];simp only[List.length_append];simp;omega
 have hax:D.getD m 0=x:=by
  have e:D=(P++A)++[x]++Q:=by rw[hD]
  rw[e,acy (by simp;omega) (by simp;omega),List.length_append,ha,hm,Nat.sub_self];rfl
 have S0:Aside (SL w0 blk off n D w):=S
 have HD:Hid (D=P++A++[x]++Q):=hD
 have HA:Hid (P.length=a):=ha
 have HM:Hid (a+A.length=m):=hm
 have HS:Hid (SortedK key A):=hA
 have HC:Aside _:=hC
 have HX:Hid (D.getD m 0=x):=hax
 have HB:Hid (m+1=b):=hb
 have hmz: ¬(m:Int)-(a:Int)=1:=by omega
 have hbz:(b:Int)-(m:Int)=1:=by omega
 have hmq:((m:Int)-(a:Int)==1)=false:=by simpa using hmz
 have hIx:I64 x:=by rw[←hax];exact S.at m (by omega)
 clear S hD ha hm hA hC hax
 go_enter Tryz.func118,Tryz.ntmps118
 go_wp2
 go_loopg [14,15] (m-a) (fun g1 vi vj wr=> ∃(i j:Nat),vi=.int .i64 i∧vj=.int .i64 j∧a≤i∧i≤j∧j≤m∧j-i≤g1∧Aside (SL w0 blk off n D wr)∧Hid ((a<i→key (D.getD (i-1) 0)≤key x)∧(j<m→key x<key (D.getD j 0))))
 case atStart=>exact⟨a,m,rfl,rfl,by omega,by omega,by omega,by omega,S0,fun h=>absurd h (by omega),fun h=>absurd h (by omega)⟩
 case round=>
  clear S0
  obtain⟨i,j,rfl,rfl,hmi,hij,hjb,hg1,S1,H1⟩:=hrel
  by_cases hlt:i<j
  ·have hltz:(i:Int)<(j:Int):=by omega
   obtain⟨h,hh⟩: ∃h,h=(i+j)/2:=⟨_,rfl⟩
   have hz:((i:Int)+(j:Int))/2=(h:Int):=by omega
   have hh1:i≤h:=by omega
   have hh2:h<j:=by omega
   obtain⟨y,hy⟩: ∃y,y=D.getD h 0:=⟨_,rfl⟩
   have la:=S1.out.cl R h (by omega)
   have lb:=S1.out.cl R m (by omega)
   rw[←hy] at la
   rw[HX.out] at lb
   have ba:(h:Int)<(n:Int):=by omega
   have bc:(m:Int)<(n:Int):=by omega
   have hc:=S1.out.cmp HC.out (x:=x) (y:=y) hIx (by rw[hy];exact S1.out.at h (by omega))
   have HY:Hid (y=D.getD h 0):=hy
   clear hh hy
   by_cases hk:key x<key y
   ·have hv:ahu key x y<0:=cmpK_lt.2 hk
    have hd:decide (ahu key x y<0)=true:=decide_eq_true hv
    have H2:Hid ((a<i→key (D.getD (i-1) 0)≤key x)∧(h<m→key x<key (D.getD h 0))):=⟨H1.out.1,fun _=>by rw[←HY.out];exact hk⟩
    clear H1 hk
    go_wp2_with fail
    go_quiet (first | (go_at_fn g;refine Calls.quiet_of (hc _)))
    have S2:Aside (SL w0 blk off n D (wr.drewN nq)):=S1.out.drewN nq
    clear la lb hc S1
    generalize wr.drewN nq=w2 at S2⊢
    clear nq
    go_wp2
    go_roundg (h-i)
    case measure=>omega
    case rel=>exact⟨i,h,rfl,rfl,by omega,by omega,by omega,Nat.le_refl _,S2,H2⟩
   ·have hv: ¬ahu key x y<0:=fun h=>hk (cmpK_lt.1 h)
    have hd:decide (ahu key x y<0)=false:=decide_eq_false hv
    have H2:Hid ((a<h+1→key (D.getD (h+1-1) 0)≤key x)∧(j<m→key x<key (D.getD j 0))):=⟨fun _=>by rw[Nat.add_sub_cancel,←HY.out];omega,H1.out.2⟩
    clear H1 hk
    go_wp2_with fail
    go_quiet (first | (go_at_fn g;refine Calls.quiet_of (hc _)))
    have S2:Aside (SL w0 blk off n D (wr.drewN nq)):=S1.out.drewN nq
    clear la lb hc S1
    generalize wr.drewN nq=w2 at S2⊢
    clear nq
    go_wp2
    go_roundg (j-(h+1))
    case measure=>omega
    case rel=>exact⟨h+1,j,by first | rfl | go_num,rfl,by omega,by omega,by omega,Nat.le_refl _,S2,H2⟩
  ·have hltz: ¬(i:Int)<(j:Int):=by omega
   obtain rfl:i=j:=by omega
   have eD:D=P++A++([x]++Q):=by rw[HD.out];simp
   have hsplit:=azi (P:=P) (A:=A) (Q:=[x]++Q) (x:=x) (i:=i) HS.out (by have:=HA.out;omega) (by have:=HA.out;have:=HM.out;omega)
    (fun h=>by rw[←eD];exact H1.out.1 (by have:=HA.out;omega)) (fun h=>by rw[←eD];exact H1.out.2 (by have:=HA.out;have:=HM.out;omega))
   rw[HA.out] at hsplit
   have hmo:=aw1 (key:=key) (x:=x) (A1:=A.take (i-a)) (A2:=A.drop (i-a)) (by rw[List.take_append_drop];exact HS.out) hsplit.1 hsplit.2
   rw[List.take_append_drop] at hmo
   have H2:Hid (SortedK key (A.take (i-a)++[x]++A.drop (i-a))∧AlikeK key (A++[x]) (A.take (i-a)++[x]++A.drop (i-a))):=hmo
   have HL:Hid ((P++A.take (i-a)).length=i∧(A.drop (i-a)).length=m-i):=by
    refine⟨?_,?_⟩
    ·rw[List.length_append,List.length_take];have:=HA.out;have:=HM.out;omega
    ·rw[List.length_drop];have:=HM.out;omega
   have HE:Hid (A=A.take (i-a)++A.drop (i-a)):=(List.take_append_drop (i-a) A).symm
   generalize A.take (i-a)=A1 at H2 HL HE
   generalize A.drop (i-a)=A2 at H2 HL HE
   have H3:Hid (DownAt (P++A1) A2 Q x i m D):=by
    have hl:=HL.out.2
    show _=_
    rw[List.take_of_length_le (by omega),List.drop_of_length_le (by omega),HD.out,HE.out]
    simp
   clear H1 hsplit hmo hltz eD
   go_wp2
   go_loopg [17] (m-i) (fun g2 vk wr2=> ∃(k:Nat) (Dk:List Int),vk=.int .i64 k∧i≤k∧k≤m∧k-i≤g2∧Aside (SL w0 blk off n Dk wr2)∧Hid (DownAt (P++A1) A2 Q x i k Dk))
   case atStart=>exact⟨m,D,rfl,by omega,Nat.le_refl _,Nat.le_refl _,S1,H3⟩
   case round=>
    clear S1 H3
    obtain⟨k,Dk,rfl,hak,hki,hg2,SK,HK⟩:=hrel
    by_cases hlt2:i<k
    ·have hlt2z:(i:Int)<(k:Int):=by omega
     obtain⟨kp,hkp⟩: ∃q,q+1=k:=⟨k-1,by omega⟩
     have zkp:(k:Int)=(kp:Int)+1:=by omega
     go_wp2_with fail
     obtain⟨iN,hiN⟩: ∃q,q=k:=⟨_,rfl⟩
     obtain⟨jN,hjN⟩: ∃q,q=k-1:=⟨_,rfl⟩
     have ea:((kp:Int)+1).toNat=iN:=by omega
     have pa:(0:Int)≤(kp:Int)+1:=by omega
     have ba:(kp:Int)+1<(n:Int):=by omega
     have ra:IntKind.i64.wrap ((kp:Int)+1)=(kp:Int)+1:=by rw[IntKind.wrap_i64];omega
     have ec:((kp:Int)).toNat=jN:=by omega
     have pc:(0:Int)≤(kp:Int):=by omega
     have bc:(kp:Int)<(n:Int):=by omega
     have rc:IntKind.i64.wrap ((kp:Int))=(kp:Int):=by rw[IntKind.wrap_i64];omega
     obtain⟨u,hu⟩: ∃u,u=Dk.getD k 0:=⟨_,rfl⟩
     obtain⟨v,hv⟩: ∃v,v=Dk.getD (k-1) 0:=⟨_,rfl⟩
     have S3:Aside (SL w0 blk off n (aez Dk k (k-1)) ((wr.setCell ⟨blk,off+iN,none⟩ (.int .i64 v)).setCell ⟨blk,off+jN,none⟩ (.int .i64 u)).drew):=by
      rw[hu,hv,hiN,hjN];exact SK.out.swapped R k (k-1) (by omega) (by omega)
     have ca:wr.cell? ⟨blk,off+iN,none⟩=some (.int .i64 u):=by rw[hu,hiN];exact SK.out.c1 R k (by omega)
     have cb':wr.cell? ⟨blk,off+jN,none⟩=some (.int .i64 v):=by rw[hv,hjN];exact SK.out.c1 R (k-1) (by omega)
     have fa:wr.frozen? ⟨blk,off+iN,none⟩=false:=by rw[hiN];exact SK.out.f1 R k (by omega)
     have fb:wr.frozen? ⟨blk,off+jN,none⟩=false:=by rw[hjN];exact SK.out.f1 R (k-1) (by omega)
     obtain⟨c,cc⟩: ∃c,(wr.setCell ⟨blk,off+iN,none⟩ (.int .i64 v)).cell? ⟨blk,off+jN,none⟩=some c:=by rw[hiN,hjN];exact SK.out.c2 R k (k-1) (by omega) (by omega) (.int .i64 v)
     have HG:Hid (DownAt (P++A1) A2 Q x i (k-1) (aez Dk k (k-1))):=HK.out.step HL.out.1 hlt2 (by have:=HL.out.2;omega)
     clear SK HK hu hv hiN hjN
     go_wp2_with fail
     go_region
     clear ca cb' cc fa fb
     generalize ((wr.setCell ⟨blk,off+iN,none⟩ (.int .i64 v)).setCell ⟨blk,off+jN,none⟩ (.int .i64 u)).drew=w3 at S3⊢
     clear ea ec
     go_wp2
     go_roundg (k-1-i)
     case measure=>omega
     case rel=>exact⟨k-1,_,by first | rfl | go_num | (congr 1;omega),by omega,by omega,Nat.le_refl _,S3,HG⟩
    ·have hlt2z: ¬(i:Int)<(k:Int):=by omega
     go_wp2
     go_end0
     refine⟨rfl,A1++[x]++A2,SK.out.to ?_,H2.out.1,H2.out.2⟩
     have e:=HK.out
     unfold DownAt at e
     obtain rfl:k=i:=by omega
     rw[Nat.sub_self,List.take_zero,List.drop_zero] at e
     rw[e];simp
end Go.Proofs.YtfhpgmlfgjfknaaGreatDoor
